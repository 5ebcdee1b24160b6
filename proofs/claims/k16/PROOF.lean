import PyProof.Rows.All
import Wide.All
import OpenK.AllK
import Wide.FinOn
import HandS.ForMost
import KE.GoesEnum
import KE.GoesMore
import HandS.SortInts
import HandS.SetFor
import HandS.Strs
import HandS.Style
import HandS.Flow
import HandS.Wide
import HandS.IsInst
import HandS.Defaults
import HandS.EndBits
import HandS.TupAny
import HandS.Property
import HandS.ClsMeth
import HandS.Star
import HandS.Gcd
import HandS.Evl
import HandS.RaiseMore
import KE.KMathGC
import HandS.More
import KE.KOpsOwn
import HandS.TryMany
import HandS.ExcInit
import HandS.ExcField
import HandS.ExcIs
import HandS.Lambda
import KE.KExcIs
import HandS.WordsExc
import HandS.EndTab
import PySem.Challenge.RW_everyname_k16_operators_of_sizes
set_option Elab.async false
set_option linter.all false
set_option maxRecDepth 100000
set_option maxHeartbeats 4000000
/-! zip of two and of three, each a list or a tuple; comprehensions over any iterator -/
namespace ZK
open PySem PySem.Spec PyProof.Rows L2
inductive Kd where | l | t
def SqK (K : PySem.W.Frag) (H : Hp) (a : Addr) (xs : List V) : Kd → Prop
  | .l => SqL K H a xs
  | .t => SqT K H a xs
def IterK (h : Heap) (it a : Addr) (i : Nat) : Kd → Prop
  | .l => h.IsListIter it a i
  | .t => h.IsTupleIter it a i
def ArrK (h : Heap) (a : Addr) (items : Array Value) : Kd → Prop
  | .l => h.IsList a items
  | .t => h.IsTuple a items
def firstO (a : Addr) : Kd → Obj
  | .l => { cls := .type "list_iterator", data := .fields #[.ref a, .int 0 0] }
  | .t => { cls := .type "tuple_iterator", data := .fields #[.ref a, .int 0 0] }
theorem iterK_at {h h' : Heap} {it a : Addr} {i : Nat} : ∀ {k : Kd}, IterK h it a i k → (∀ o, h.get? it = some o → h'.get? it = some o) → IterK h' it a i k
  | .l, x, e => Heap.IsListIter.at x e
  | .t, x, e => Heap.IsTupleIter.at x e
theorem iterK_obj {h : Heap} {it a : Addr} {i : Nat} : ∀ {k : Kd}, IterK h it a i k → ∃ o, h.get? it = some o ∧ ∀ v, o.data ≠ .cell v
  | .l, ⟨o, e, _, d⟩ => ⟨o, e, fun v q => by rw [d] at q; cases q⟩
  | .t, ⟨o, e, _, d⟩ => ⟨o, e, fun v q => by rw [d] at q; cases q⟩
theorem iterK_first {h : Heap} {it a : Addr} : ∀ {k : Kd}, h.get? it = some (firstO a k) → IterK h it a 0 k
  | .l, e => ⟨_, e, rfl, rfl⟩
  | .t, e => ⟨_, e, rfl, rfl⟩
theorem drawsK {prog : Program} {w : World} {A : Around} (hh : A.handled = none) (it a : Addr) (hne : a ≠ it) (items : Array Value) :
    ∀ k : Kd, Draws prog w A it [it, a] items.size (fun i v => items[i]? = some v) (fun i h => IterK h it a i k ∧ ArrK h a items k)
  | .l => Draws.list hh it a hne items
  | .t => Draws.tuple hh it a hne items
theorem beginsK (a : Addr) (items : Array Value) : ∀ k : Kd, Begins (.ref a) (firstO a k) fun h => ArrK h a items k
  | .l => begins_list a items
  | .t => begins_tuple a items
section
variable {X : Cx} {pins : List (Addr × Obj)} {σ : L2.St} {H : Hp} {s : Shared} {a : Addr} {xs ys : List V}
theorem invK (I : Inv X pins σ H s) : ∀ {k : Kd}, SqK X.K H a xs k → ∃ its : List Value, Vals xs its ∧ ArrK s.heap a its.toArray k ∧ xs.length ≤ sizeLine ∧ a < s.heap.objs.size
  | .l, h => by
    obtain ⟨its, r, p, z⟩ := I.list h
    exact ⟨its, r, p.isList, z, p.lt⟩
  | .t, h => by
    obtain ⟨its, r, p, z⟩ := I.tuple h
    exact ⟨its, r, p, z, p.lt⟩
theorem injK (I : Inv X pins σ H s) : ∀ {k : Kd}, SqK X.K H a xs k → SqK X.K H a ys k → xs = ys
  | .l, h, h' => I.list_inj h h'
  | .t, h, h' => I.tuple_inj h h'
end
theorem SqK.same {K : PySem.W.Frag} {H H' : Hp} {a : Addr} {xs : List V} (s : Same H H') : ∀ {k : Kd}, SqK K H a xs k → SqK K H' a xs k
  | .l, h => s.seq h
  | .t, h => by
    rcases h with (h | ⟨o, h⟩) | h
    · exact .inl (.inl (s _ _ h))
    · exact .inl (.inr ⟨o, s _ _ h⟩)
    · exact .inr h

/-! ### zip of two -/
def Itz2 (K : PySem.W.Frag) (k1 k2 : Kd) (a b : Addr) : It :=
  ⟨fun i H => ∃ (xs ys : List V) (x y : V), SqK K H a xs k1 ∧ SqK K H b ys k2 ∧ xs[i]? = some x ∧ ys[i]? = some y,
    fun i H v H' => ∃ T x y, v = .ref T ∧ H T = none ∧ H' = upd H T (.tup [x, y]) ∧ (∀ xs, SqK K H a xs k1 → xs[i]? = some x) ∧ ∀ ys, SqK K H b ys k2 → ys[i]? = some y,
    fun i H => ∃ xs ys : List V, SqK K H a xs k1 ∧ SqK K H b ys k2 ∧ i ≤ xs.length ∧ i ≤ ys.length ∧ (i = xs.length ∨ i = ys.length)⟩
theorem turn_z2 {P : Program} {w : World} {K : PySem.W.Frag} {elts : List Expr} {kk : Nat} {tpos : Pos} {k1 k2 : Kd} {a b z TI TO i1 i2 : Addr} (S : ZipSep2 z TI TO i1 i2 [i1, a] [i2, b]) (n1 : a ≠ i1) (n2 : b ≠ i2) :
    Turn P w K (.Tuple elts kk tpos) (Itz2 K k1 k2 a b) [z, TI, TO, i1, i2] z
      (fun i h => IsZip h z TI TO .none ∧ IsTupOf2 h TI (.ref i1) (.ref i2) ∧ (∃ x y, IsTupOf2 h TO x y) ∧ IterK h i1 a i k1 ∧ IterK h i2 b i k2) where
  mem := by simp
  obj := fun i h st c hc => by
    obtain ⟨hz, hTI, ⟨x, y, hTO⟩, h1, h2⟩ := st
    simp only [List.mem_cons, List.mem_nil_iff, or_false] at hc
    rcases hc with rfl | rfl | rfl | rfl | rfl
    · exact ⟨_, hz, fun v q => nomatch q⟩
    · exact ⟨_, hTI, fun v q => nomatch q⟩
    · exact ⟨_, hTO, fun v q => nomatch q⟩
    · exact iterK_obj h1
    · exact iterK_obj h2
  keep := fun i h h' st k => by
    obtain ⟨hz, hTI, ⟨x, y, hTO⟩, h1, h2⟩ := st
    exact ⟨k z (by simp) _ hz, k TI (by simp) _ hTI, ⟨x, y, k TO (by simp) _ hTO⟩, iterK_at h1 fun o q => k i1 (by simp) o q, iterK_at h2 fun o q => k i2 (by simp) o q⟩
  item := by
    intro X hP hw hK hc i pins s σ H E I hf st hg
    subst hP hw hK
    obtain ⟨hz, hTI, ⟨x0, y0, hTO⟩, h1, h2⟩ := st
    obtain ⟨xs, ys, x, y, qx, qy, hx, hy⟩ := hg
    obtain ⟨its1, rv1, p1, _, _⟩ := invK I qx
    obtain ⟨its2, rv2, p2, _, _⟩ := invK I qy
    obtain ⟨u1, hu1, ru1⟩ := rv1.get hx
    obtain ⟨u2, hu2, ru2⟩ := rv2.get hy
    have hh : X.A.in1.handled = none := I.ok.hd hc
    have l1 : i < its1.toArray.size := by simpa using (List.getElem?_eq_some_iff.mp hu1).1
    have l2 : i < its2.toArray.size := by simpa using (List.getElem?_eq_some_iff.mp hu2).1
    have zlt : z < s.heap.objs.size := Heap.lt_size hz
    refine wpAny_pyNext_zipD2_item S (drawsK hh i1 a n1 its1.toArray k1) (drawsK hh i2 b n2 its2.toArray k2) hz hTI hTO ⟨h1, p1⟩ ⟨h2, p2⟩ l1 l2 fun v1 v2 h' tk pv1 pv2 z' TO' s1 s2 hT hsz hk => ?_
    have e1 : v1 = u1 := by simpa [hu1] using pv1.symm
    have e2 : v2 = u2 := by simpa [hu2] using pv2.symm
    subst e1 e2
    refine ⟨_, rfl, wpAny_letOwnedTupleGo_zip (s := { s with heap := h', toks := tk }) z' fun h'' z'' sb => ?_⟩
    have hT2 := (sb.2 _ (Nat.ne_of_gt zlt)).trans hT
    have new : ObjOk X.prog X.w (upd H s.heap.objs.size (.tup [x, y])) h'' s.heap.objs.size (.tup [x, y]) :=
      ⟨by show 2 ≤ sizeLine; decide, [v1, v2], .cons ru1 (.cons ru2 .nil), ⟨_, hT2, rfl, _, rfl⟩⟩
    have stay : ∀ c o, c ∉ [z, TI, TO, i1, i2] → s.heap.get? c = some o → h''.get? c = some o := fun c o hc q => by
      simp only [List.mem_cons, List.mem_nil_iff, or_false, not_or] at hc
      exact (sb.2 c hc.1).trans (hk c o hc.1 hc.2.2.1 hc.2.2.2.1 hc.2.2.2.2 q)
    have I1 := I.turnedNew (t' := tk) (ch := [z, TI, TO, i1, i2]) stay hf (Nat.le_refl _) new
    refine ⟨.ref s.heap.objs.size, _, I1, rfl, ⟨_, x, y, rfl, I.hok.fresh (Nat.le_refl _), rfl, fun l hl => by rw [injK I hl qx]; exact hx, fun l hl => by rw [injK I hl qy]; exact hy⟩, ⟨z'', ?_, ⟨v1, v2, ?_⟩, ?_, ?_⟩, fun c hcm => ?_⟩
    · exact (sb.2 _ S.TIz).trans (hk _ _ S.TIz S.TITO S.TIi1 S.TIi2 hTI)
    · exact (sb.2 _ S.TOz).trans TO'
    · exact iterK_at s1.1 fun o q => (sb.2 _ S.zi1.symm).trans q
    · exact iterK_at s2.1 fun o q => (sb.2 _ S.zi2.symm).trans q
    · have hlt : c < s.heap.objs.size := by
        simp only [List.mem_cons, List.mem_nil_iff, or_false] at hcm
        rcases hcm with rfl | rfl | rfl | rfl | rfl
        · exact zlt
        · exact Heap.lt_size hTI
        · exact Heap.lt_size hTO
        · obtain ⟨_, e, _⟩ := iterK_obj h1; exact Heap.lt_size e
        · obtain ⟨_, e, _⟩ := iterK_obj h2; exact Heap.lt_size e
      rw [upd_ne (Nat.ne_of_lt hlt)]
      exact (hf c hcm).1
  done := by
    intro X hP hw hK hc i pins s σ H E I hf st hg
    subst hP hw hK
    obtain ⟨hz, hTI, ⟨x0, y0, hTO⟩, h1, h2⟩ := st
    obtain ⟨xs, ys, qx, qy, le1, le2, hend⟩ := hg
    obtain ⟨its1, rv1, p1, _, _⟩ := invK I qx
    obtain ⟨its2, rv2, p2, _, _⟩ := invK I qy
    have hh : X.A.in1.handled = none := I.ok.hd hc
    have e1 := rv1.length
    have e2 := rv2.length
    refine wpAny_pyNext_zipD2_end S (drawsK hh i1 a n1 its1.toArray k1) (drawsK hh i2 b n2 its2.toArray k2) hz hTI hTO ⟨h1, p1⟩ ⟨h2, p2⟩ (by simp; omega) (by simp; omega) (by simp; omega) fun h' tk hk => ⟨rfl, ?_⟩
    refine I.turnedL (t' := tk) (ch := [z, TI, TO, i1, i2]) (fun c o hc q => ?_) hf
    simp only [List.mem_cons, List.mem_nil_iff, or_false, not_or] at hc
    exact hk c o hc.1 hc.2.2.1 hc.2.2.2.1 hc.2.2.2.2 q
  self := fun A i s Q E st h => wpAny_pyIter_zip st.1 h
def iZip2 (K : PySem.W.Frag) (k1 k2 : Kd) (ta : TA) : TI := fun σ H R => ta σ H fun vs H1 => ∃ a b xs ys, vs = [.ref a, .ref b] ∧ SqK K H1 a xs k1 ∧ SqK K H1 b ys k2 ∧ R (Itz2 K k1 k2 a b) H1
theorem pi_zip2 {X : Cx} {e e2 : Expr} {ta : TA} {p pos tpos : Pos} {elts : List Expr} {kk : Nat} (k1 k2 : Kd) (hg : Gl X "zip") (hm : X.mg "zip" = none) (ha : PA X [e, e2] ta)
    (hs : starEach [e, e2] X.env = (false, eval e X.env) :: starEach [e2] X.env := by rfl) (hpl : (backTo pos (starEach [e2] X.env)).any (·.1) = false := by rfl) :
    PI X (.Tuple elts kk tpos) (.Call (.Name "zip" p) [e, e2] [] pos) (iZip2 X.K k1 k2 ta) := by
  refine ⟨fun pins s σ H R I h => ?_⟩
  refine Call_ (ld_blt I hg hm PyProof.Rows.boot_zip (PyProof.Rows.callWith_type1 (thn (ha.run pos pins s σ H _ I h) fun us s1 ⟨vs, H1, I1, r1, q1⟩ => ?_) hs hpl))
  obtain ⟨a, b, xs, ys, ex, qx, qy, q⟩ := q1
  subst ex
  obtain ⟨u1, u2, rfl, ra, rb⟩ := vals2 r1
  cases (show u1 = Value.ref a from ra)
  cases (show u2 = Value.ref b from rb)
  obtain ⟨its1, rv1, p1, _, la⟩ := invK I1 qx
  obtain ⟨its2, rv2, p2, _, lb⟩ := invK I1 qy
  generalize hN : s1.heap.objs.size = N at la lb
  have fresh : ∀ c, c ∈ [N + 4, N + 2, N + 3, N, N + 1] → FpOk X pins H1 c := fun c hc => by
    have hle : s1.heap.objs.size ≤ c := by
      simp only [List.mem_cons, List.mem_nil_iff, or_false] at hc
      omega
    exact I1.fpOk hle (I1.hok.fresh hle)
  refine zip_begins2 (beginsK a its1.toArray k1) (beginsK b its2.toArray k2) p1 p2 fun h' hz hTI hTO g1 g2 hsz hk => wpAny_pyIter_zip hz ?_
  rw [hN] at hz hTI hTO g1 g2 ⊢
  have I2 : Inv X pins σ H1 { s1 with heap := h' } := I1.kept (t' := s1.toks) hk
  exact ⟨N + 4, [N + 4, N + 2, N + 3, N, N + 1], _, _, H1, rfl, I2, turn_z2 (zip_sep2 (fp1 := [a]) (fp2 := [b]) (by simpa using la) (by simpa using lb)) (Nat.ne_of_lt la) (Nat.ne_of_lt (Nat.lt_succ_of_lt lb)), ⟨hz, hTI, ⟨_, _, hTO⟩, iterK_first g1, iterK_first g2⟩, fresh, q⟩

/-! ### comprehensions over any iterator of n turns -/
theorem lc_any {J : It} {g : TG} {tt : TT} {te : TE} {vs : List Nat} {σ : L2.St} {H1 : Hp} {D : Addr} {Qd : Hp → Prop} (n : Nat) (Pv : Nat → Hp → Prop) (h0 : Pv 0 (upd H1 D (.lst [])))
    (hgo : ∀ i H, i < n → Pv i H → J.go i H) (hstop : ∀ H, Pv n H → J.stop n H)
    (hs : ∀ i H x H', i < n → Pv i H → J.yld i H x H' → g x (wipe σ vs) H' fun σ2 H2 => wipe σ2 vs = wipe σ vs ∧ tt σ2 H2 fun b H3 =>
      if b = true then te σ2 H3 fun y H4 => ∃ acc, H4 D = some (.lst acc) ∧ acc.length < sizeLine ∧ Pv (i + 1) (upd H4 D (.lst (acc ++ [y]))) else Pv (i + 1) H3) (hd : ∀ H, Pv n H → Qd H) :
    ∃ W : Nat → Nat → Hp → Prop, (∃ m, W 0 m (upd H1 D (.lst []))) ∧ ∀ i m H, W i m H →
      (J.stop i H ∧ Qd H) ∨ (J.go i H ∧ ∃ Nx : Hp → Prop, (∀ H', Nx H' → ∃ m', m' < m ∧ W (i + 1) m' H') ∧ ∀ x H', J.yld i H x H' → g x (wipe σ vs) H' fun σ2 H2 => wipe σ2 vs = wipe σ vs ∧ tt σ2 H2 fun b H3 =>
        if b = true then te σ2 H3 fun y H4 => ∃ acc, H4 D = some (.lst acc) ∧ acc.length < sizeLine ∧ Nx (upd H4 D (.lst (acc ++ [y]))) else Nx H3) := by
  refine ⟨fun i m H => i + m = n ∧ Pv i H, ⟨n, Nat.zero_add _, h0⟩, fun i m H ⟨e, p⟩ => ?_⟩
  by_cases hi : i < n
  · exact .inr ⟨hgo i H hi p, Pv (i + 1), fun H' p' => ⟨m - 1, by omega, by omega, p'⟩, fun x H' y => hs i H x H' hi p y⟩
  · obtain rfl : i = n := by omega
    exact .inl ⟨hstop H p, hd H p⟩
/-- one new member a turn: R i y is known of the i-th; I i of the heap ahead of turn i -/
theorem lc_grow {J : It} {g : TG} {te : TE} {vs : List Nat} {σ : L2.St} {H1 : Hp} {D : Addr} {Qd : Hp → Prop} (n : Nat) (hn : n < sizeLine) (I : Nat → Hp → Prop) (R : Nat → V → Prop) (h0 : I 0 (upd H1 D (.lst [])))
    (hgo : ∀ i H, i < n → I i H → J.go i H) (hstop : ∀ H, I n H → J.stop n H)
    (hs : ∀ i H x H' acc, i < n → I i H → H D = some (.lst acc) → acc.length = i → (∀ j y, acc[j]? = some y → R j y) → J.yld i H x H' → ∀ Qn : VK,
      (∀ y H4, R i y → H4 D = some (.lst acc) → I (i + 1) (upd H4 D (.lst (acc ++ [y]))) → Qn y H4) → g x (wipe σ vs) H' fun σ2 H2 => wipe σ2 vs = wipe σ vs ∧ te σ2 H2 Qn)
    (hd : ∀ H acc, I n H → H D = some (.lst acc) → acc.length = n → (∀ i y, acc[i]? = some y → R i y) → Qd H) :
    ∃ W : Nat → Nat → Hp → Prop, (∃ m, W 0 m (upd H1 D (.lst []))) ∧ ∀ i m H, W i m H →
      (J.stop i H ∧ Qd H) ∨ (J.go i H ∧ ∃ Nx : Hp → Prop, (∀ H', Nx H' → ∃ m', m' < m ∧ W (i + 1) m' H') ∧ ∀ x H', J.yld i H x H' → g x (wipe σ vs) H' fun σ2 H2 => wipe σ2 vs = wipe σ vs ∧ tYes σ2 H2 fun b H3 =>
        if b = true then te σ2 H3 fun y H4 => ∃ acc, H4 D = some (.lst acc) ∧ acc.length < sizeLine ∧ Nx (upd H4 D (.lst (acc ++ [y]))) else Nx H3) := by
  refine lc_any n (fun i H => I i H ∧ ∃ acc, H D = some (.lst acc) ∧ acc.length = i ∧ ∀ j y, acc[j]? = some y → R j y) ⟨h0, [], upd_same, rfl, fun j y h => by simp at h⟩ (fun i H hi p => hgo i H hi p.1) (fun H p => hstop H p.1) (fun i H x H' hi p y => ?_) (fun H p => ?_)
  · obtain ⟨pI, acc, hD, hl, hR⟩ := p
    have z := hs i H x H' acc hi pI hD hl hR y (fun y H4 => ∃ acc, H4 D = some (.lst acc) ∧ acc.length < sizeLine ∧ I (i + 1) (upd H4 D (.lst (acc ++ [y]))) ∧ ∃ acc', (upd H4 D (.lst (acc ++ [y]))) D = some (.lst acc') ∧ acc'.length = i + 1 ∧ ∀ j y, acc'[j]? = some y → R j y) fun z H4 hr h4 hi4 => by
      refine ⟨acc, h4, by omega, hi4, acc ++ [z], upd_same, by simp [hl], fun j u hj => ?_⟩
      by_cases hja : j < acc.length
      · rw [List.getElem?_append_left hja] at hj
        exact hR j u hj
      · have hj2 : j = i := by
          have := (List.getElem?_eq_some_iff.mp hj).1
          simp at this
          omega
        subst hj2
        rw [List.getElem?_append_right (by omega), hl] at hj
        simp at hj
        rw [← hj]
        exact hr
    have e : ∀ (A : TE) (B : Hp → Prop) (Q : VK), (fun (σ2 : L2.St) (H2 : Hp) => wipe σ2 vs = wipe σ vs ∧ A σ2 H2 Q) = fun σ2 H2 => wipe σ2 vs = wipe σ vs ∧ tYes σ2 H2 fun b H3 => if b = true then A σ2 H3 Q else B H3 := fun A B Q => by
      funext σ2 H2
      simp [tYes]
    rw [e te (fun H3 => I (i + 1) H3 ∧ ∃ acc', H3 D = some (.lst acc') ∧ acc'.length = i + 1 ∧ ∀ j y, acc'[j]? = some y → R j y)] at z
    exact z
  · obtain ⟨pI, acc, hD, hl, hR⟩ := p
    exact hd H acc pI hD hl hR
/-- over range(n) -/
theorem lc_growR {g : TG} {te : TE} {vs : List Nat} {σ : L2.St} {H1 : Hp} {D : Addr} {Qd : Hp → Prop} {lo : Int} (n : Nat) (hn : n < sizeLine) (I : Nat → Hp → Prop) (R : Nat → V → Prop) (h0 : I 0 (upd H1 D (.lst [])))
    (hs : ∀ i H acc, i < n → I i H → H D = some (.lst acc) → acc.length = i → (∀ j y, acc[j]? = some y → R j y) → ∀ Qn : VK,
      (∀ y H4, R i y → H4 D = some (.lst acc) → I (i + 1) (upd H4 D (.lst (acc ++ [y]))) → Qn y H4) → g (.int (lo + i)) (wipe σ vs) H fun σ2 H2 => wipe σ2 vs = wipe σ vs ∧ te σ2 H2 Qn)
    (hd : ∀ H acc, I n H → H D = some (.lst acc) → acc.length = n → (∀ i y, acc[i]? = some y → R i y) → Qd H) :
    ∃ W : Nat → Nat → Hp → Prop, (∃ m, W 0 m (upd H1 D (.lst []))) ∧ ∀ i m H, W i m H →
      ((Itr lo n).stop i H ∧ Qd H) ∨ ((Itr lo n).go i H ∧ ∃ Nx : Hp → Prop, (∀ H', Nx H' → ∃ m', m' < m ∧ W (i + 1) m' H') ∧ ∀ x H', (Itr lo n).yld i H x H' → g x (wipe σ vs) H' fun σ2 H2 => wipe σ2 vs = wipe σ vs ∧ tYes σ2 H2 fun b H3 =>
        if b = true then te σ2 H3 fun y H4 => ∃ acc, H4 D = some (.lst acc) ∧ acc.length < sizeLine ∧ Nx (upd H4 D (.lst (acc ++ [y]))) else Nx H3) := by
  refine lc_grow n hn I R h0 (fun i H hi _ => hi) (fun H _ => Nat.le_refl n) (fun i H x H' acc hi pI hD hl hR y Qn hq => ?_) hd
  obtain ⟨e1, e2⟩ := y
  subst e1 e2
  exact hs i H' acc hi pI hD hl hR Qn hq
/-- over a list that stays -/
theorem lc_growL {K : PySem.W.Frag} {a : Addr} {xs : List V} {g : TG} {te : TE} {vs : List Nat} {σ : L2.St} {H1 : Hp} {D : Addr} {Qd : Hp → Prop} (hn : xs.length < sizeLine) (I : Nat → Hp → Prop) (R : Nat → V → Prop) (h0 : I 0 (upd H1 D (.lst [])))
    (hl : ∀ i H, I i H → SqL K H a xs)
    (hs : ∀ i x H acc, xs[i]? = some x → I i H → H D = some (.lst acc) → acc.length = i → (∀ j y, acc[j]? = some y → R j y) → ∀ Qn : VK,
      (∀ y H4, R i y → H4 D = some (.lst acc) → I (i + 1) (upd H4 D (.lst (acc ++ [y]))) → Qn y H4) → g x (wipe σ vs) H fun σ2 H2 => wipe σ2 vs = wipe σ vs ∧ te σ2 H2 Qn)
    (hd : ∀ H acc, I xs.length H → H D = some (.lst acc) → acc.length = xs.length → (∀ i y, acc[i]? = some y → R i y) → Qd H) :
    ∃ W : Nat → Nat → Hp → Prop, (∃ m, W 0 m (upd H1 D (.lst []))) ∧ ∀ i m H, W i m H →
      ((Itl K a).stop i H ∧ Qd H) ∨ ((Itl K a).go i H ∧ ∃ Nx : Hp → Prop, (∀ H', Nx H' → ∃ m', m' < m ∧ W (i + 1) m' H') ∧ ∀ x H', (Itl K a).yld i H x H' → g x (wipe σ vs) H' fun σ2 H2 => wipe σ2 vs = wipe σ vs ∧ tYes σ2 H2 fun b H3 =>
        if b = true then te σ2 H3 fun y H4 => ∃ acc, H4 D = some (.lst acc) ∧ acc.length < sizeLine ∧ Nx (upd H4 D (.lst (acc ++ [y]))) else Nx H3) := by
  refine lc_grow xs.length hn I R h0 (fun i H hi p => ⟨xs, xs[i], hl i H p, List.getElem?_eq_getElem hi⟩) (fun H p => ⟨xs, hl _ H p, Nat.le_refl _⟩) (fun i H x H' acc hi pI hD hla hR y Qn hq => ?_) hd
  obtain ⟨e1, e2⟩ := y
  subst e1
  exact hs i x H' acc (e2 _ (hl i H' pI)) pI hD hla hR Qn hq
/-- over a tuple that stays -/
theorem lc_growT {K : PySem.W.Frag} {a : Addr} {xs : List V} {g : TG} {te : TE} {vs : List Nat} {σ : L2.St} {H1 : Hp} {D : Addr} {Qd : Hp → Prop} (hn : xs.length < sizeLine) (I : Nat → Hp → Prop) (R : Nat → V → Prop) (h0 : I 0 (upd H1 D (.lst [])))
    (hl : ∀ i H, I i H → SqT K H a xs)
    (hs : ∀ i x H acc, xs[i]? = some x → I i H → H D = some (.lst acc) → acc.length = i → (∀ j y, acc[j]? = some y → R j y) → ∀ Qn : VK,
      (∀ y H4, R i y → H4 D = some (.lst acc) → I (i + 1) (upd H4 D (.lst (acc ++ [y]))) → Qn y H4) → g x (wipe σ vs) H fun σ2 H2 => wipe σ2 vs = wipe σ vs ∧ te σ2 H2 Qn)
    (hd : ∀ H acc, I xs.length H → H D = some (.lst acc) → acc.length = xs.length → (∀ i y, acc[i]? = some y → R i y) → Qd H) :
    ∃ W : Nat → Nat → Hp → Prop, (∃ m, W 0 m (upd H1 D (.lst []))) ∧ ∀ i m H, W i m H →
      ((Itt K a).stop i H ∧ Qd H) ∨ ((Itt K a).go i H ∧ ∃ Nx : Hp → Prop, (∀ H', Nx H' → ∃ m', m' < m ∧ W (i + 1) m' H') ∧ ∀ x H', (Itt K a).yld i H x H' → g x (wipe σ vs) H' fun σ2 H2 => wipe σ2 vs = wipe σ vs ∧ tYes σ2 H2 fun b H3 =>
        if b = true then te σ2 H3 fun y H4 => ∃ acc, H4 D = some (.lst acc) ∧ acc.length < sizeLine ∧ Nx (upd H4 D (.lst (acc ++ [y]))) else Nx H3) := by
  refine lc_grow xs.length hn I R h0 (fun i H hi p => ⟨xs, xs[i], hl i H p, List.getElem?_eq_getElem hi⟩) (fun H p => ⟨xs, hl _ H p, Nat.le_refl _⟩) (fun i H x H' acc hi pI hD hla hR y Qn hq => ?_) hd
  obtain ⟨e1, e2⟩ := y
  subst e1
  exact hs i x H' acc (e2 _ (hl i H' pI)) pI hD hla hR Qn hq
/-- what is known of every member, as an equation of lists -/
theorem eq_map {acc : List V} {n : Nat} {f : Nat → V} (hl : acc.length = n) (h : ∀ i y, acc[i]? = some y → y = f i) : acc = (List.range n).map f := by
  refine List.ext_getElem? fun i => ?_
  by_cases hi : i < n
  · have e : acc[i]? = some acc[i] := List.getElem?_eq_getElem (by omega)
    rw [e, h i _ e]
    simp [hi]
  · have h1 : acc[i]? = none := List.getElem?_eq_none_iff.mpr (by omega)
    have h2 : ((List.range n).map f)[i]? = none := List.getElem?_eq_none_iff.mpr (by rw [List.length_map, List.length_range]; omega)
    rw [h1, h2]
end ZK

namespace EN.M
/-! ### falling products, binomials over all integers -/
def ff (n : Int) : Nat → Int
  | 0 => 1
  | k + 1 => ff n k * (n - k)
def fac : Nat → Int
  | 0 => 1
  | k + 1 => fac k * (k + 1)
theorem fac_pos : ∀ k, 0 < fac k
  | 0 => by decide
  | k + 1 => Int.mul_pos (fac_pos k) (by omega)
theorem ff_up (n : Int) : ∀ k, ff (n + 1) (k + 1) = (n + 1) * ff n k
  | 0 => by simp [ff]
  | k + 1 => by
    have ih := ff_up n k
    rw [ff, ih, ff, Int.mul_assoc]
    have e : n + 1 - ((k + 1 : Nat) : Int) = n - (k : Int) := by omega
    rw [e]
theorem ff_step (n : Int) (k : Nat) : ff (n + 1) (k + 1) = ff n (k + 1) + (k + 1) * ff n k := by
  rw [ff_up, show ff n (k + 1) = ff n k * (n - k) from rfl, Int.mul_comm (ff n k), ← Int.add_mul]
  have e : n - (k : Int) + ((k : Int) + 1) = n + 1 := by omega
  rw [e]
theorem ff_zero : ∀ k, ff 0 (k + 1) = 0
  | 0 => by simp [ff]
  | k + 1 => by rw [ff, ff_zero k, Int.zero_mul]
/-- up and down from 0 -/
theorem int_ind {p : Int → Prop} (h0 : p 0) (up : ∀ n, p n → p (n + 1)) (down : ∀ n, p (n + 1) → p n) : ∀ n, p n := by
  have a : ∀ m : Nat, p (m : Int) := fun m => by
    induction m with
    | zero => exact h0
    | succ m ih => exact up _ ih
  have b : ∀ m : Nat, p (-(m : Int)) := fun m => by
    induction m with
    | zero => exact h0
    | succ m ih =>
      refine down _ ?_
      have e : -((m + 1 : Nat) : Int) + 1 = -(m : Int) := by omega
      rw [e]
      exact ih
  intro n
  by_cases h : 0 ≤ n
  · have := a n.toNat
    rwa [Int.toNat_of_nonneg h] at this
  · have := b (-n).toNat
    rwa [Int.toNat_of_nonneg (by omega), Int.neg_neg] at this
theorem dvd_ff : ∀ (k : Nat) (n : Int), fac k ∣ ff n k
  | 0, n => ⟨1, by simp [ff, fac]⟩
  | k + 1, n => by
    have part : ∀ n : Int, fac (k + 1) ∣ (k + 1) * ff n k := fun n => by
      obtain ⟨q, e⟩ := dvd_ff k n
      exact ⟨q, by rw [e, fac, ← Int.mul_assoc, Int.mul_comm ((k : Int) + 1)]⟩
    refine int_ind (p := fun n => fac (k + 1) ∣ ff n (k + 1)) ⟨0, by rw [ff_zero, Int.mul_zero]⟩ (fun n h => ?_) (fun n h => ?_) n
    · rw [ff_step]
      exact Int.dvd_add h (part n)
    · rw [ff_step] at h
      exact (Int.dvd_add_left (part n)).mp h
def C (n : Int) (k : Nat) : Int := ff n k / fac k
theorem C_mul (n : Int) (k : Nat) : C n k * fac k = ff n k := Int.ediv_mul_cancel (dvd_ff k n)
theorem fac_cancel {k : Nat} {a b : Int} (h : a * fac k = b * fac k) : a = b := Int.eq_of_mul_eq_mul_right (Int.ne_of_gt (fac_pos k)) h
theorem C_zero (n : Int) : C n 0 = 1 := by simp [C, ff, fac]
theorem C_rec (n : Int) (k : Nat) : C n (k + 1) * (k + 1) = C n k * (n - k) := by
  refine fac_cancel (k := k) ?_
  rw [Int.mul_assoc, Int.mul_comm ((k : Int) + 1), show fac k * ((k : Int) + 1) = fac (k + 1) from rfl, C_mul, ff, ← C_mul n k, Int.mul_right_comm]
theorem C_next (n : Int) (k : Nat) : C n k * (n - k) / ((k : Int) + 1) = C n (k + 1) := by
  rw [← C_rec]
  exact Int.mul_ediv_cancel _ (by omega)
theorem pascal (n : Int) (k : Nat) : C (n + 1) (k + 1) = C n (k + 1) + C n k := by
  refine fac_cancel (k := k + 1) ?_
  rw [Int.add_mul, C_mul, C_mul, ff_step, show fac (k + 1) = fac k * ((k : Int) + 1) from rfl, ← Int.mul_assoc, C_mul, Int.mul_comm (ff n k)]
theorem C_at0 (k : Nat) : C 0 (k + 1) = 0 := by rw [C, ff_zero, Int.zero_ediv]
/-! ### rows -/
def valF : Nat → List Int → Int → Int
  | _, [], _ => 0
  | j, a :: r, n => a * C n j + valF (j + 1) r n
def val (r : List Int) (n : Int) : Int := valF 0 r n
theorem valF_step : ∀ (r : List Int) (j : Nat) (n : Int), valF (j + 1) r (n + 1) = valF (j + 1) r n + valF j r n
  | [], j, n => rfl
  | a :: r, j, n => by
    rw [valF, valF, valF, valF_step r (j + 1) n, pascal, Int.mul_add]
    omega
theorem valF_at0 : ∀ (r : List Int) (j : Nat), valF (j + 1) r 0 = 0
  | [], _ => rfl
  | a :: r, j => by rw [valF, C_at0, Int.mul_zero, valF_at0 r (j + 1), Int.zero_add]
theorem val_cons (a : Int) (r : List Int) (n : Int) : val (a :: r) n = a + valF 1 r n := by
  show a * C n 0 + valF 1 r n = _
  rw [C_zero, Int.mul_one]
theorem valF1_step (r : List Int) (n : Int) : valF 1 r (n + 1) = valF 1 r n + val r n := valF_step r 0 n
/-! ### through values -/
def diffs : List Int → List Int
  | a :: b :: r => (b - a) :: diffs (b :: r)
  | _ => []
theorem diffs_len : ∀ l : List Int, (diffs l).length = l.length - 1
  | [] => rfl
  | [_] => rfl
  | a :: b :: r => by
    have ih := diffs_len (b :: r)
    rw [diffs, List.length_cons, ih]
    simp
theorem diffs_get : ∀ (l : List Int) (k : Nat) (x y : Int), l[k]? = some x → l[k + 1]? = some y → (diffs l)[k]? = some (y - x)
  | [], k, x, y, h, _ => by simp at h
  | [a], k, x, y, h, h2 => by simp at h2
  | a :: b :: r, 0, x, y, h, h2 => by
    simp at h h2
    simp [diffs, h, h2]
  | a :: b :: r, k + 1, x, y, h, h2 => by
    have ih := diffs_get (b :: r) k x y (by simpa using h) (by simpa using h2)
    simpa [diffs] using ih
def thrN : Nat → List Int → List Int
  | m + 1, a :: r => a :: thrN m (diffs (a :: r))
  | _, _ => []
def thr (l : List Int) : List Int := thrN l.length l
theorem thr_nil : thr [] = [] := rfl
theorem thr_cons (a : Int) (r : List Int) : thr (a :: r) = a :: thr (diffs (a :: r)) := by
  show a :: thrN r.length (diffs (a :: r)) = a :: thrN (diffs (a :: r)).length (diffs (a :: r))
  rw [diffs_len]
  rfl
theorem thr_len (l : List Int) : (thr l).length = l.length := by
  have h : ∀ m (l : List Int), l.length = m → (thr l).length = m := by
    intro m
    induction m with
    | zero => intro l h; cases l with
      | nil => rfl
      | cons a r => simp at h
    | succ m ih => intro l h; cases l with
      | nil => simp at h
      | cons a r =>
        rw [thr_cons, List.length_cons, ih _ (by rw [diffs_len, h]; rfl)]
  exact h _ l rfl
theorem thr_val (l : List Int) : ∀ k : Nat, k < l.length → l[k]? = some (val (thr l) (k : Int)) := by
  have h : ∀ m (l : List Int), l.length = m → ∀ k : Nat, k < m → l[k]? = some (val (thr l) (k : Int)) := by
    intro m
    induction m with
    | zero => intro l h k hk; omega
    | succ m ih => intro l h; cases l with
      | nil => simp at h
      | cons a r =>
        intro k
        induction k with
        | zero =>
          intro _
          rw [thr_cons, val_cons, show ((0 : Nat) : Int) = 0 from rfl, valF_at0, Int.add_zero]
          rfl
        | succ k ihk =>
          intro hk
          have h1 := ihk (by omega)
          have hd := ih (diffs (a :: r)) (by rw [diffs_len, h]; rfl) k (by omega)
          obtain ⟨y, hy⟩ : ∃ y, (a :: r)[k + 1]? = some y := ⟨_, List.getElem?_eq_getElem (by omega)⟩
          have h2 := diffs_get _ k _ _ h1 hy
          rw [h2] at hd
          rw [hy]
          have e := Option.some.inj hd
          rw [thr_cons, val_cons] at e ⊢
          rw [show ((k + 1 : Nat) : Int) = (k : Int) + 1 from rfl, valF1_step, ← e]
          congr 1
          omega
  exact h _ l rfl
theorem row_unique : ∀ (r r' : List Int), r.length = r'.length → (∀ k : Nat, k < r.length → val r (k : Int) = val r' (k : Int)) → r = r'
  | [], [], _, _ => rfl
  | [], _ :: _, h, _ => by simp at h
  | _ :: _, [], h, _ => by simp at h
  | a :: r, b :: s, h, hv => by
    have h0 := hv 0 (by simp)
    rw [val_cons, val_cons, show ((0 : Nat) : Int) = 0 from rfl, valF_at0, valF_at0, Int.add_zero, Int.add_zero] at h0
    subst h0
    have hl : r.length = s.length := by simpa using h
    congr 1
    refine row_unique r s hl fun k hk => ?_
    have h1 := hv k (by rw [List.length_cons]; omega)
    have h2 := hv (k + 1) (by rw [List.length_cons]; omega)
    rw [val_cons, val_cons] at h1 h2
    rw [show ((k + 1 : Nat) : Int) = (k : Int) + 1 from rfl, valF1_step, valF1_step] at h2
    omega
def vals (f : Int → Int) (m : Nat) : List Int := (List.range m).map fun k : Nat => f (k : Int)
theorem vals_len (f : Int → Int) (m : Nat) : (vals f m).length = m := by simp [vals]
theorem vals_get (f : Int → Int) (m k : Nat) (h : k < m) : (vals f m)[k]? = some (f (k : Int)) := by
  simp [vals, h]
theorem thr_vals (r : List Int) : thr (vals (val r) r.length) = r := by
  refine row_unique _ _ (by rw [thr_len, vals_len]) fun k hk => ?_
  rw [thr_len, vals_len] at hk
  have h := thr_val (vals (val r) r.length) k (by rw [vals_len]; exact hk)
  rw [vals_get _ _ _ hk] at h
  exact (Option.some.inj h).symm
theorem vals_congr {f g : Int → Int} {m : Nat} (h : ∀ k : Nat, k < m → f (k : Int) = g (k : Int)) : vals f m = vals g m := by
  unfold vals
  exact List.map_congr_left fun k hk => h k (List.mem_range.mp hk)
/-! ### ahead -/
def ah : List Int → Int → List Int
  | [], _ => []
  | a :: r, k => val (a :: r) k :: ah r k
theorem ah_len (k : Int) : ∀ r : List Int, (ah r k).length = r.length
  | [] => rfl
  | a :: r => by rw [ah, List.length_cons, ah_len k r, List.length_cons]
theorem ah_val (k : Int) : ∀ (r : List Int) (n : Int), val (ah r k) n = val r (n + k)
  | [], n => rfl
  | a :: r, n => by
    have ih := ah_val k r
    rw [ah, val_cons, val_cons, val_cons]
    refine int_ind (p := fun n => a + valF 1 r k + valF 1 (ah r k) n = a + valF 1 r (n + k)) ?_ (fun n h => ?_) (fun n h => ?_) n
    · rw [valF_at0, Int.zero_add, Int.add_zero]
    · rw [valF1_step, ih, show n + 1 + k = n + k + 1 by omega, valF1_step]
      omega
    · rw [valF1_step, ih, show n + 1 + k = n + k + 1 by omega, valF1_step] at h
      omega
theorem ah_get (k : Int) : ∀ (r : List Int) (j : Nat), j < r.length → (ah r k)[j]? = some (val (r.drop j) k)
  | [], j, h => by simp at h
  | a :: r, 0, h => rfl
  | a :: r, j + 1, h => by
    have ih := ah_get k r j (by simpa using h)
    simpa [ah] using ih
theorem ah_eq (r : List Int) (k : Int) : (List.range r.length).map (fun j => val (r.drop j) k) = ah r k := by
  refine List.ext_getElem? fun j => ?_
  by_cases h : j < r.length
  · rw [ah_get k r j h]
    simp [h]
  · have h1 : (ah r k)[j]? = none := List.getElem?_eq_none_iff.mpr (by rw [ah_len]; omega)
    rw [h1]
    simp; omega
/-! ### without the zeros at the end -/
def cutN (r : List Int) : Nat → Nat
  | 0 => 0
  | e + 1 => if r[e]? = some 0 then cutN r e else e + 1
def cut (r : List Int) : List Int := r.take (cutN r r.length)
theorem cutN_le (r : List Int) : ∀ e, cutN r e ≤ e
  | 0 => Nat.le_refl _
  | e + 1 => by
    unfold cutN
    split
    · exact Nat.le_succ_of_le (cutN_le r e)
    · exact Nat.le_refl _
theorem valF_append : ∀ (r s : List Int) (j : Nat) (n : Int), valF j (r ++ s) n = valF j r n + valF (j + r.length) s n
  | [], s, j, n => by simp [valF]
  | a :: r, s, j, n => by
    rw [List.cons_append, valF, valF, valF_append r s (j + 1) n, List.length_cons, show j + 1 + r.length = j + (r.length + 1) by omega]
    omega
theorem val_take (r : List Int) (n : Int) : ∀ e, e ≤ r.length → val (r.take (cutN r e)) n = val (r.take e) n
  | 0, _ => rfl
  | e + 1, h => by
    unfold cutN
    split
    · rename_i z
      rw [val_take r n e (by omega)]
      have hx : e < r.length := by omega
      rw [List.take_succ_eq_append_getElem hx, val, val, valF_append]
      have e0 : r[e] = 0 := by
        rw [List.getElem?_eq_getElem hx] at z
        exact Option.some.inj z
      rw [e0]
      simp [valF]
    · rfl
theorem cut_val (r : List Int) (n : Int) : val (cut r) n = val r n := by
  rw [cut, val_take r n _ (Nat.le_refl _), List.take_length]
/-! ### the falling product as a row -/
def fallRow (m : Nat) : List Int := List.replicate m 0 ++ [fac m]
theorem valF_zeros (n : Int) : ∀ (m j : Nat), valF j (List.replicate m 0) n = 0
  | 0, _ => rfl
  | m + 1, j => by rw [List.replicate_succ, valF, valF_zeros n m (j + 1), Int.zero_mul, Int.zero_add]
theorem fall_val (m : Nat) (n : Int) : val (fallRow m) n = ff n m := by
  rw [fallRow, val, valF_append, valF_zeros, List.length_replicate]
  show 0 + (fac m * C n (0 + m) + 0) = _
  rw [Nat.zero_add, Int.zero_add, Int.add_zero, Int.mul_comm, C_mul]
theorem fall_len (m : Nat) : (fallRow m).length = m + 1 := by simp [fallRow]
/-! ### what the law wishes -/
theorem through_law (vs : List Int) (o : Int) : cut (ah (thr vs) (-o)) = cut (thr (vals (fun n => val (cut (thr vs)) (n - o)) vs.length)) := by
  have h : vals (fun n => val (cut (thr vs)) (n - o)) vs.length = vals (val (ah (thr vs) (-o))) (ah (thr vs) (-o)).length := by
    rw [ah_len, thr_len]
    refine vals_congr fun k _ => ?_
    rw [ah_val, cut_val]
    rfl
  rw [h, thr_vals]
theorem through_back (vs : List Int) (o : Int) (k : Nat) (h : k < vs.length) : vs[k]? = some (val (cut (ah (thr vs) (-o))) (o + k)) := by
  rw [cut_val, ah_val, show o + (k : Int) + -o = (k : Int) by omega]
  exact thr_val vs k h
theorem falling_law (m : Nat) (o : Int) : cut (ah (fallRow m) (-o)) = cut (thr (vals (fun n => ff (n - o) m) (m + 1))) := by
  have h : vals (fun n => ff (n - o) m) (m + 1) = vals (val (ah (fallRow m) (-o))) (ah (fallRow m) (-o)).length := by
    rw [ah_len, fall_len]
    refine vals_congr fun k _ => ?_
    rw [ah_val, fall_val]
    rfl
  rw [h, thr_vals]
end EN.M

namespace EN
open PySem L2 PyProof.Rows
def top (i : Nat) : Stmt := PySem.Challenge.pw_everyname_k16_operators_of_sizes.main.body.getD i (.Pass ⟨0, 0, 0, 0⟩)

/-! ### a def by its module name -/
/-- the module's x is a def that keeps the promise sp by level k -/
structure Has (P : Program) (w : World) (K : PySem.W.Frag) (mg : Str → Option Value) (base : Heap) (k : Nat) (x : Str) (ps : List Str) (sp : Sp) : Prop where
  ex : ∃ (f : Addr) (fd : FuncData), FnOk P w K mg base CX0 k f fd ps sp ∧ mg x = some (.ref f) ∧ PySem.W.keepIn K (.ref f) = true ∧ Binds K fd ps []
section
variable {X : Cx} {k : Nat} {x : Str} {ps : List Str} {sp : Sp} {p pos : Pos} {e : Expr} {es : List Expr} {t : TA}
theorem pe_has (O : Has X.prog X.w X.K X.mg X.base k x ps sp) (hr : Room k X.A) (ha : PA X (e :: es) t) (hg : Gl X x := by rfl) (hdb : (x == ("__debug__" : Str)) = false := by decide)
    (he : starEach (e :: es) X.env = (false, eval e X.env) :: starEach es X.env := by rfl) (hpl : (backTo pos (starEach es X.env)).any (·.1) = false := by rfl) :
    PE X (.Call (.Name x p) (e :: es) [] pos) (tCall sp [] E0 t) := by
  obtain ⟨f, fd, F, hm, hk, hb⟩ := O.ex
  exact pe_call F hr hg hm hk hb .nil pass0 ha hdb he hpl
end

/-! ### built-ins whose reading names the written part -/
def rLenQ (K : PySem.W.Frag) : List V → Hp → VK → Prop := fun xs H Q => ∃ p ys, xs = [.ref p] ∧ (SqL K H p ys ∨ SqT K H p ys) ∧ Q (.int ys.length) H
theorem c_len {X : Cx} : CallR X (.builtin "len") (rLenQ X.K) := call_len_seq
def rListQ (K : PySem.W.Frag) : List V → Hp → VK → Prop := fun xs H Q => ∃ p ys, xs = [.ref p] ∧ (SqL K H p ys ∨ SqT K H p ys) ∧ ∀ l, H l = none → Q (.ref l) (upd H l (.lst ys))
theorem c_list {X : Cx} : CallR X (.type "list") (rListQ X.K) := call_list_of
def rTupQ (K : PySem.W.Frag) : List V → Hp → VK → Prop := fun xs H Q => ∃ p ys, xs = [.ref p] ∧ ((SqL K H p ys ∧ ∀ l, H l = none → Q (.ref l) (upd H l (.tup ys))) ∨ (SqT K H p ys ∧ Q (.ref p) H))
theorem c_tuple {X : Cx} : CallR X (.type "tuple") (rTupQ X.K) := call_tuple_of

/-! ### heaps -/
/-- what stood stands, but at p -/
def But (p : Addr) (H H' : Hp) : Prop := ∀ b o, H b = some o → b ≠ p → H' b = some o
theorem But.refl (p : Addr) (H : Hp) : But p H H := fun _ _ h _ => h
theorem But.trans {p : Addr} {H H1 H2 : Hp} (a : But p H H1) (b : But p H1 H2) : But p H H2 := fun c o h n => b c o (a c o h n) n
theorem But.upd {p : Addr} {H H1 : Hp} (a : But p H H1) (u : HO) : But p H (upd H1 p u) := fun c o h n => by
  rw [upd_ne n]; exact a c o h n
theorem But.new {p q : Addr} {H H1 : Hp} (a : But p H H1) (u : HO) (hq : H1 q = none) : But p H (L2.upd H1 q u) := fun c o h n => by
  rw [upd_ne (ne_of_none (a c o h n) hq)]; exact a c o h n
theorem same_but {p : Addr} {H H' : Hp} (a : Same H H') : But p H H' := fun c o h _ => a c o h
theorem same_new {q : Addr} {H H1 : Hp} (a : Same H H1) (u : HO) (hq : H1 q = none) : Same H (upd H1 q u) := fun c o h => by
  rw [upd_ne (ne_of_none (a c o h) hq)]; exact a c o h

/-- an object that came later is changed -/
theorem same_but_new {q : Addr} {H H1 : Hp} {u : HO} (a : Same H H1) (hq : H q = none) : Same H (upd H1 q u) := fun c o h => by
  rw [upd_ne (ne_of_none h hq)]; exact a c o h
theorem but_new {p q : Addr} {H H1 : Hp} {u : HO} (a : But p H H1) (hq : H q = none) : But p H (upd H1 q u) := fun c o h n => by
  rw [upd_ne (ne_of_none h hq)]; exact a c o h n

/-! ### the pen -/
abbrev kC : Key := Sum.inr "cells"
abbrev kB : Key := Sum.inr "begun"
abbrev kR : Key := Sum.inr "rest"
def penO (c : Addr) (b r : Int) : HO := .dK [(kC, .ref c), (kB, .int b), (kR, .int r)]
theorem pen_c (c : Addr) (b r : Int) : valV [(kC, V.ref c), (kB, .int b), (kR, .int r)] kC = some (.ref c) := by simp [valV]
theorem pen_b (c : Addr) (b r : Int) : valV [(kC, V.ref c), (kB, .int b), (kR, .int r)] kB = some (.int b) := by
  rw [valV_neg (show ¬ (kC = kB) by decide +kernel), valV_pos rfl]
theorem pen_r (c : Addr) (b r : Int) : valV [(kC, V.ref c), (kB, .int b), (kR, .int r)] kR = some (.int r) := by
  rw [valV_neg (show ¬ (kC = kR) by decide +kernel), valV_neg (show ¬ (kB = kR) by decide +kernel), valV_pos rfl]
theorem pen_pb (c : Addr) (b r : Int) (y : V) : putK [(kC, V.ref c), (kB, .int b), (kR, .int r)] kB y = [(kC, V.ref c), (kB, y), (kR, .int r)] := by
  have h1 : ¬ (kC = kB) := by decide +kernel
  have h2 : ¬ (kR = kB) := by decide +kernel
  unfold putK
  simp [h1, h2]
theorem pen_pr (c : Addr) (b r : Int) (y : V) : putK [(kC, V.ref c), (kB, .int b), (kR, .int r)] kR y = [(kC, V.ref c), (kB, .int b), (kR, y)] := by
  have h1 : ¬ (kC = kR) := by decide +kernel
  have h2 : ¬ (kB = kR) := by decide +kernel
  unfold putK
  simp [h1, h2]
/-- the pen at p over the cells ns at c; at most B cells were begun -/
structure Pen (H : Hp) (p c : Addr) (ns : List Int) (B : Nat) : Prop where
  at_ : ∃ b r : Int, H p = some (penO c b r) ∧ 0 ≤ b ∧ b ≤ B ∧ 0 ≤ r
  cells : H c = some (.lst (ns.map V.int))
  few : ns.length ≤ 63
  small : B ≤ 1000000000
theorem Pen.ne {H : Hp} {p c : Addr} {ns : List Int} {B : Nat} (h : Pen H p c ns B) : c ≠ p := by
  obtain ⟨b, r, e, _⟩ := h.at_
  exact ne_of h.cells e (by intro z; cases z)
theorem Pen.more {H : Hp} {p c : Addr} {ns : List Int} {B B' : Nat} (h : Pen H p c ns B) (hb : B ≤ B') (hs : B' ≤ 1000000000) : Pen H p c ns B' := by
  obtain ⟨b, r, e, h0, h1, h2⟩ := h.at_
  exact ⟨⟨b, r, e, h0, by omega, h2⟩, h.cells, h.few, hs⟩
/-- other objects may come, or change -/
theorem Pen.stay {H H' : Hp} {p c : Addr} {ns : List Int} {B : Nat} (h : Pen H p c ns B) (hp : H' p = H p) (hc : H' c = H c) : Pen H' p c ns B := by
  obtain ⟨b, r, e, z⟩ := h.at_
  exact ⟨⟨b, r, hp.trans e, z⟩, hc.trans h.cells, h.few, h.small⟩
theorem Pen.same {H H' : Hp} {p c : Addr} {ns : List Int} {B : Nat} (h : Pen H p c ns B) (s : Same H H') : Pen H' p c ns B := by
  obtain ⟨b, r, e, z⟩ := h.at_
  exact ⟨⟨b, r, s _ _ e, z⟩, s _ _ h.cells, h.few, h.small⟩
theorem Pen.new {H : Hp} {p c q : Addr} {ns : List Int} {B : Nat} {u : HO} (h : Pen H p c ns B) (hq : H q = none) : Pen (upd H q u) p c ns B := by
  obtain ⟨b, r, e, z⟩ := h.at_
  exact h.stay (upd_ne (ne_of_none e hq)) (upd_ne (ne_of_none h.cells hq))
theorem Pen.nep {H : Hp} {p c q : Addr} {ns : List Int} {B : Nat} (h : Pen H p c ns B) (hq : H q = none) : q ≠ p := by
  obtain ⟨b, r, e, z⟩ := h.at_
  exact (ne_of_none e hq).symm
theorem Pen.nec {H : Hp} {p c q : Addr} {ns : List Int} {B : Nat} (h : Pen H p c ns B) (hq : H q = none) : q ≠ c := (ne_of_none h.cells hq).symm

/-! ### the promises of the pen -/
def spPen (K : PySem.W.Frag) : Sp := fun vs H Q _ => ∃ (a : Addr) (ns : List Int), vs = [.ref a] ∧ SqL K H a (ns.map V.int) ∧ ns.length ≤ 63 ∧
  ∀ (p c : Addr) (H' : Hp), Same H H' → H p = none → H c = none → Pen H' p c ns 0 → Q (.ref p) H'
def spDraw : Sp := fun vs H Q _ => ∃ (p c : Addr) (ns : List Int) (B : Nat) (m : Int), vs = [.ref p, .int m] ∧ Pen H p c ns B ∧ B < 1000000000 ∧ 0 < m ∧ m.natAbs < 2 ^ 8000 ∧
  ∀ (d : Int) (H' : Hp), 0 ≤ d → d < m → Pen H' p c ns (B + 1) → But p H H' → Q (.int d) H'
/-- what the walk asks of the built-in names -/
structure Blt (mg : Str → Option Value) : Prop where
  list_ : mg "list" = none
  len_ : mg "len" = none
  int_ : mg "int" = none
  abs_ : mg "abs" = none
  range_ : mg "range" = none
  tuple_ : mg "tuple" = none
  isinstance_ : mg "isinstance" = none
  bool_ : mg "bool" = none
  all_ : mg "all" = none
  sum_ : mg "sum" = none
  zip_ : mg "zip" = none
  min_ : mg "min" = none
  sorted_ : mg "sorted" = none
  any_ : mg "any" = none
  set_ : mg "set" = none
  max_ : mg "max" = none
  str_ : mg "str" = none
  enumerate_ : mg "enumerate" = none
  reversed_ : mg "reversed" = none
  dict_ : mg "dict" = none
end EN

namespace EN
open PySem L2 PyProof.Rows
section
variable {P : Program} {w : World} {K : PySem.W.Frag} {mg : Str → Option Value} {base : Heap} {f : Addr} {fd : FuncData}
theorem sqT_same {H H' : Hp} {a : Addr} {xs : List V} (s : Same H H') (h : SqT K H a xs) : SqT K H' a xs := ZK.SqK.same (k := .t) s h
theorem sqL_but {H H' : Hp} {p a : Addr} {xs : List V} (s : But p H H') (np : ∀ o, H p = some o → o ≠ .lst xs ∧ ∀ u, o ≠ .frz u (.lst xs)) (h : SqL K H a xs) : SqL K H' a xs := by
  rcases h with (h | ⟨o, h⟩) | h
  · refine .inl (.inl (s _ _ h fun e => ?_))
    subst e
    exact (np _ h).1 rfl
  · refine .inl (.inr ⟨o, s _ _ h fun e => ?_⟩)
    subst e
    exact (np _ h).2 o rfl
  · exact .inr h
theorem sqT_but {H H' : Hp} {p a : Addr} {xs : List V} (s : But p H H') (np : ∀ o, H p = some o → o ≠ .tup xs ∧ ∀ u, o ≠ .frz u (.tup xs)) (h : SqT K H a xs) : SqT K H' a xs := by
  rcases h with (h | ⟨o, h⟩) | h
  · refine .inl (.inl (s _ _ h fun e => ?_))
    subst e
    exact (np _ h).1 rfl
  · refine .inl (.inr ⟨o, s _ _ h fun e => ?_⟩)
    subst e
    exact (np _ h).2 o rfl
  · exact .inr h
theorem Pen.sqL {H H' : Hp} {p c a : Addr} {ns : List Int} {B : Nat} {xs : List V} (P : Pen H p c ns B) (s : But p H H') (h : SqL K H a xs) : SqL K H' a xs := by
  obtain ⟨b, r, e, _⟩ := P.at_
  exact sqL_but s (fun o z => by rw [e] at z; cases z; exact ⟨(by intro q; cases q), (by intro u q; cases q)⟩) h
theorem Pen.sqT {H H' : Hp} {p c a : Addr} {ns : List Int} {B : Nat} {xs : List V} (P : Pen H p c ns B) (s : But p H H') (h : SqT K H a xs) : SqT K H' a xs := by
  obtain ⟨b, r, e, _⟩ := P.at_
  exact sqT_but s (fun o z => by rw [e] at z; cases z; exact ⟨(by intro q; cases q), (by intro u q; cases q)⟩) h
theorem tyx_lst {H : Hp} {a : Addr} {xs : List V} (h : SqL K H a xs) : TyX K H (.ref a) (.type "list") := by
  rcases h with (h | ⟨o, h⟩) | ⟨o, its, n, e, c, _⟩
  · exact .base (.lst h)
  · exact .base (.frz h)
  · exact .kList e c
theorem tyx_tup {H : Hp} {a : Addr} {xs : List V} (h : SqT K H a xs) : TyX K H (.ref a) (.type "tuple") := by
  rcases h with (h | ⟨o, h⟩) | ⟨o, its, n, e, c, _⟩
  · exact .base (.tup h)
  · exact .fTuple h
  · exact .kTuple e c
theorem look1 {f : Str} {v : V} : List.lookup f [(f, v)] = some v := by simp [List.lookup]
theorem get_int {r : List Int} {e : Nat} (h : e < r.length) : (r.map V.int)[e]? = some (.int (r.getD e 0)) ∧ r[e]? = some (r.getD e 0) := by
  rw [List.getElem?_map, List.getElem?_eq_getElem h, List.getD_eq_getElem?_getD, List.getElem?_eq_getElem h]
  exact ⟨rfl, rfl⟩
theorem sqT_upd {H : Hp} {t x C dx : Addr} {fs : List (Str × V)} {xs : List V} {o : HO} (h : SqT K H t xs) (hx : H x = some (.ins C dx fs)) : SqT K (upd H x o) t xs :=
  sqT_but (p := x) (fun b u e n => by rw [upd_ne n]; exact e) (fun u e => by rw [hx] at e; cases e; exact ⟨(by intro q; cases q), (by intro u q; cases q)⟩) h
theorem all_true (n : Nat) : ((List.range n).map fun _ => true).all id = true := by simp
end
end EN

namespace EN
open PySem L2 PyProof.Rows
section
variable {P : Program} {w : World} {K : PySem.W.Frag} {mg : Str → Option Value} {base : Heap} {f : Addr} {fd : FuncData}
abbrev s_pen : Stmt := top 38
abbrev N_pen : List Str := ["_law_script"]
theorem sc_pen : FnScope N_pen ["_law_script"] (defScope s_pen) := ⟨rfl, rfl, rfl, by decide +kernel, rfl, by decide +kernel, by decide +kernel⟩

theorem cut63 {xs : List V} (h : xs.length ≤ 63) : cutV xs none (some 63) = xs := by
  unfold cutV
  rw [show HT.sIx xs.length 0 none = 0 from rfl, show (63 : Int) = ((63 : Nat) : Int) from rfl, HT.sIx_nat, List.drop_zero, Nat.sub_zero, Nat.min_eq_right h, List.take_length]
theorem pen_mk (c : Addr) : mergeK [] [(kC, V.ref c), (kB, .int 0), (kR, .int 0)] = [(kC, V.ref c), (kB, .int 0), (kR, .int 0)] := by
  have h1 : ¬ (kC = kB) := by decide +kernel
  have h2 : ¬ (kC = kR) := by decide +kernel
  have h3 : ¬ (kB = kR) := by decide +kernel
  simp [mergeK, putK, h1, h2, h3]
theorem ok_pen (F : Fun K "_law_pen" "_law_pen" s_pen f fd) (T : Blt mg) : FnOk P w K mg base CX0 1 f fd ["_law_script"] (spPen K) := by
  refine F.ok sc_pen (fun vs H Q E h => ?_) (fun cdv A outer s H vs Q E hr h => ?_)
  · obtain ⟨a, ns, rfl, _⟩ := h
    rfl
  · obtain ⟨a, ns, rfl, hS, hl, k⟩ := h
    have hu := hu_of hr
    refine ⟨_, (pss_one (ps_ret (pe_disp (pps_cons pe_str (pe_callTy (show CallR _ _ (rListQ K) from c_list) (by rfl) T.list_ (by decide +kernel) (pa_cons (pe_slice (show SlR _ (rSlL K) from sl_list) (pv 0) po_none (po_some pe_int)) pa_nil)) (pps_cons pe_str pe_int (pps_cons pe_str pe_int pps_nil))) (by rfl) (by rfl) (fun z => by cases z) (by decide)))), ?_⟩
    intro p hp
    have s1 : Same H (upd H p (.dK [])) := same_new (Same.refl H) _ hp
    refine ⟨_, rfl, _, rfl, a, _, rfl, s1.seq hS, fun q hq => ?_⟩
    refine ⟨q, _, rfl, .inl (SqL.of upd_same), fun c hc => ?_⟩
    have ec := cut63 (xs := ns.map V.int) (by rw [List.length_map]; exact hl)
    rw [ec] at hc ⊢
    have npq : p ≠ q := ne_of_none upd_same hq
    have npc : p ≠ c := ne_of_none (by rw [upd_ne npq]; exact upd_same) hc
    have nqc : q ≠ c := ne_of_none upd_same hc
    refine ⟨by rw [upd_ne npc, upd_ne npq, upd_same], [(kC, V.ref c), (kB, .int 0), (kR, .int 0)], rfl, (by show 3 ≤ 15; decide), ?_⟩
    rw [pen_mk]
    refine k p c _ (fun b o e => ?_) hp ?_ ⟨⟨0, 0, upd_same, Int.le_refl _, by decide, Int.le_refl _⟩, by rw [upd_ne npc.symm, upd_same], hl, by decide⟩
    · have nb : b ≠ p := ne_of_none e hp
      have e1 := s1 b o e
      rw [upd_ne nb]
      exact same_new (same_new (Same.refl _) _ hq) _ hc b o e1
    · have e1 : (upd H p (HO.dK [])) c = none := (same_new (Same.refl _) _ hq).free hc
      exact s1.free e1
end
end EN

namespace EN
open PySem L2 PyProof.Rows
section
variable {P : Program} {w : World} {K : PySem.W.Frag} {mg : Str → Option Value} {base : Heap} {f : Addr} {fd : FuncData}
abbrev s_draw : Stmt := top 39
abbrev N_draw : List Str := ["_law_pen_here", "_law_many", "_law_digit", "_law_spot", "_law_size", "_law_cell", "_law_stir"]
theorem sc_draw : FnScope N_draw ["_law_pen_here", "_law_many"] (defScope s_draw) := ⟨rfl, rfl, rfl, by decide +kernel, rfl, by decide +kernel, by decide +kernel⟩

/-! sizes of numbers -/
theorem lt_wide {x : Int} {n : Nat} (h : x.natAbs < 2 ^ n) : x.natAbs.log2 < n + 1 := by
  by_cases z : x.natAbs = 0
  · rw [z]
    exact Nat.succ_pos n
  · exact Nat.lt_succ_of_lt ((Nat.log2_lt z).mpr h)
theorem mulW {i j : Int} (a b : Nat) (ha : i.natAbs < 2 ^ a) (hb : j.natAbs < 2 ^ b) (h : a + b ≤ 999990) : CMulW i j := by
  have h1 := lt_wide ha
  have h2 := lt_wide hb
  show i.natAbs.log2 + j.natAbs.log2 < 1000000
  omega
theorem divW {i j : Int} (b : Nat) (h : 0 < j) (hb : j.natAbs < 2 ^ b) (h9 : b ≤ 8990) : CDivW i j := ⟨h, by have := lt_wide hb; omega⟩
theorem pm {x y : Int} (h : 0 < y) : (fun _ j : Int => 0 < j) x y := h
theorem add_small {x : Int} (h : x.natAbs < 2 ^ 32) : (x + 32771).natAbs < 2 ^ 33 := by omega
theorem at_some {xs : List Int} {i : Int} (h0 : 0 ≤ i) (h1 : i < xs.length) : ∃ z, atI (xs.map V.int) i = some (V.int z) := by
  obtain ⟨n, rfl⟩ := Int.eq_ofNat_of_zero_le h0
  have hn : n < xs.length := by omega
  exact ⟨xs[n], atI_nat (by rw [List.getElem?_map, List.getElem?_eq_getElem hn]; rfl)⟩
theorem ok_draw (F : Fun K "_law_draw" "_law_draw" s_draw f fd) (T : Blt mg) : FnOk P w K mg base CX0 1 f fd ["_law_pen_here", "_law_many"] spDraw := by
  refine F.ok sc_draw (fun vs H Q E h => ?_) (fun cdv A outer s H vs Q E hr h => ?_)
  · obtain ⟨p, c, ns, B, m, rfl, _⟩ := h
    rfl
  · obtain ⟨p, c, ns, B, m, rfl, hP, hB, hm, hmb, k⟩ := h
    have hu := hu_of hr
    obtain ⟨b, r, e, hb0, hbB, hr0⟩ := hP.at_
    have ncp := hP.ne
    refine ⟨_, (pss_cons (ps_if (pt_cmpR op_gt (pe_dget hu (pv 0) pe_str (fun _ _ => rfl)) pe_int (nomark _))
      (pss_cons (ps_set (i := 2) sc_draw.nd rfl (Or.inl rfl) (pe_op op_mod (pe_callTy call_int1 (by rfl) T.int_ (by decide +kernel) (pa_cons (pe_dget hu (pv 0) pe_str (fun _ _ => rfl)) pa_nil)) (pv 1)))
      (pss_cons (ps_dput hu (pv 0) pe_str (pe_op op_fdivW (pe_dget hu (pv 0) pe_str (fun _ _ => rfl)) (pv 1)) rfl)
      (pss_one (ps_ret (pv 2)))))
      pss_nil)
    (pss_cons (ps_par (i := 3) (j := 4) (by rfl) sc_draw.nd rfl rfl (by decide) rfl rfl (pa_cons (pe_dget hu (pv 0) pe_str (fun _ _ => rfl)) (pa_cons (pe_callB (show CallR _ _ (rLenQ K) from c_len) (by rfl) T.len_ (by decide +kernel) (pa_cons (pe_dget hu (pv 0) pe_str (fun _ _ => rfl)) pa_nil)) pa_nil)) (by rfl))
    (pss_cons (ps_dput hu (pv 0) pe_str (pe_op op_add (pv 3) pe_int) rfl)
    (pss_cons (ps_set (i := 5) sc_draw.nd rfl (Or.inl rfl) (pe_op op_add (pe_op op_mulW pe_int (pv 3)) pe_int))
    (Evl.pss_cut (ps_if (pt_cmpR op_gt (pv 4) pe_int (nomark _))
      (pss_one (ps_set (i := 5) sc_draw.nd rfl (Or.inl rfl) (pe_ix (show IxR _ (rIxL K) from ix_list) (pe_dget hu (pv 0) pe_str (fun _ _ => rfl)) (pe_op op_mod (pe_callTy call_int1 (by rfl) T.int_ (by decide +kernel) (pa_cons (pv 3) pa_nil)) (pv 4)) (fun _ _ => rfl))))
      pss_nil)
    (Evl.pss_cut (ps_if (PW.pt (pw_and (pt_cmpR op_lt (pv 3) (pv 4) (nomark _)) (pw_and1 (pt_cmpR op_ge (pe_callB call_abs (by rfl) T.abs_ (by decide +kernel) (pa_cons (pv 5) pa_nil)) (pe_op op_pow pe_int pe_int) (nomark _)))))
      (pss_cons (ps_dput hu (pv 0) pe_str (pe_op op_fdivW (pe_op op_sub (pe_callB call_abs (by rfl) T.abs_ (by decide +kernel) (pa_cons (pv 5) pa_nil)) (pe_op op_pow pe_int pe_int)) (pv 1)) rfl)
      (pss_one (ps_ret (pe_op op_mod (pe_op op_sub (pe_callB call_abs (by rfl) T.abs_ (by decide +kernel) (pa_cons (pv 5) pa_nil)) (pe_op op_pow pe_int pe_int)) (pv 1)))))
      pss_nil)
    (pss_cons (ps_set (i := 6) sc_draw.nd rfl (Or.inl rfl) (pe_op op_mod (pe_callTy call_int1 (by rfl) T.int_ (by decide +kernel) (pa_cons (pe_op op_add (pe_op op_add (pe_op op_mulW (pe_op op_mod (pe_callTy call_int1 (by rfl) T.int_ (by decide +kernel) (pa_cons (pv 5) pa_nil)) pe_int) pe_int) (pe_op op_mulW (pe_op op_mulW pe_int (pv 3)) (pv 3))) pe_int) pa_nil)) pe_int))
    (pss_cons (ps_set (i := 6) sc_draw.nd rfl (Or.inl rfl) (pe_op op_mod (pe_callTy call_int1 (by rfl) T.int_ (by decide +kernel) (pa_cons (pe_op op_add (pe_op op_add (pe_op op_add (pe_op op_mulW (pv 6) (pv 6)) (pe_op op_mulW pe_int (pv 6))) (pe_op op_mulW pe_int (pv 3))) pe_int) pa_nil)) pe_int))
    (pss_cons (ps_set (i := 6) sc_draw.nd rfl (Or.inl rfl) (pe_op op_fdivW (pe_op op_mod (pe_callTy call_int1 (by rfl) T.int_ (by decide +kernel) (pa_cons (pe_op op_mulW (pv 6) (pe_op op_add (pv 6) pe_int)) pa_nil)) pe_int) pe_int))
    (pss_one (ps_ret (pe_op op_mod (pe_callTy call_int1 (by rfl) T.int_ (by decide +kernel) (pa_cons (pv 6) pa_nil)) (pv 1))))))))))))), ?_⟩
    have gC : ∀ {H : Hp} {b r : Int}, H p = some (penO c b r) → DGet H p (.str "cells") (some (.ref c)) := fun e => by
      have z := DGet.k (k := kC) e
      rw [pen_c] at z
      exact z
    have gB : ∀ {H : Hp} {b r : Int}, H p = some (penO c b r) → DGet H p (.str "begun") (some (.int b)) := fun e => by
      have z := DGet.k (k := kB) e
      rw [pen_b] at z
      exact z
    have gR : ∀ {H : Hp} {b r : Int}, H p = some (penO c b r) → DGet H p (.str "rest") (some (.int r)) := fun e => by
      have z := DGet.k (k := kR) e
      rw [pen_r] at z
      exact z
    have pB : ∀ {H : Hp} {b r : Int} (y : Int), H p = some (penO c b r) → DPut H p (.str "begun") (.int y) (upd H p (penO c y r)) := fun y e => by
      have z := DPut.k (k := kB) (v := .int y) e (by show 3 < sizeLine; decide)
      rw [pen_pb] at z
      exact z
    have pR : ∀ {H : Hp} {b r : Int} (y : Int), H p = some (penO c b r) → DPut H p (.str "rest") (.int y) (upd H p (penO c b y)) := fun y e => by
      have z := DPut.k (k := kR) (v := .int y) e (by show 3 < sizeLine; decide)
      rw [pen_pr] at z
      exact z
    have cut : CDivW r m := divW 8000 hm hmb (by decide)
    -- if rest > 0
    refine ⟨_, rfl, p, _, rfl, gR e, _, _, rfl, rfl, _, rfl, ?_⟩
    refine ite2 (fun h1 => ?_) (fun h1 => ?_)
    · -- the digit
      refine ⟨_, rfl, p, _, rfl, gR e, .inl ⟨_, rfl, _, rfl, _, _, rfl, rfl, hm, ?_⟩⟩
      refine ⟨_, rfl, p, _, rfl, gR e, _, rfl, _, _, rfl, rfl, divW 8000 hm hmb (by decide), _, rfl, p, _, rfl, pR _ e, _, rfl, ?_⟩
      refine k _ _ (Int.emod_nonneg _ (by omega)) (Int.emod_lt_of_pos _ hm) ⟨⟨_, _, upd_same, hb0, by omega, Int.ediv_nonneg hr0 (by omega)⟩, by rw [upd_ne ncp]; exact hP.cells, hP.few, by omega⟩ ((But.refl _ _).upd _)
    · -- a new cell
      have hl := hP.few
      refine ⟨_, rfl, p, _, rfl, gB e, _, rfl, p, _, rfl, gC e, c, _, rfl, .inl (SqL.of hP.cells), _, _, rfl, ?_⟩
      refine ⟨_, rfl, _, _, rfl, rfl, _, rfl, p, _, rfl, pB _ e, ?_⟩
      have e1 : (upd H p (penO c (b + 1) r)) p = some (penO c (b + 1) r) := upd_same
      have hc1 : (upd H p (penO c (b + 1) r)) c = some (.lst (ns.map V.int)) := by rw [upd_ne ncp]; exact hP.cells
      generalize hH1 : upd H p (penO c (b + 1) r) = H1 at e1 hc1 ⊢
      have but1 : But p H H1 := by rw [← hH1]; exact (But.refl _ _).upd _
      have bnd : b.natAbs < 2 ^ 30 := by omega
      refine ⟨_, rfl, _, _, rfl, rfl, mulW 10 30 (by decide) bnd (by decide), _, _, rfl, rfl, ?_⟩
      -- the cell
      rw [List.length_map]
      refine ⟨fun σ H' => H1 = H' ∧ ∃ cell : Int, σ = [some (.ref p), some (.int m), none, some (.int b), some (.int (ns.length : Int)), some (.int cell), none], ?_, ?_⟩
      · refine ⟨_, rfl, _, _, rfl, rfl, _, rfl, ?_⟩
        refine ite2 (fun h2 => ?_) (fun h2 => ?_)
        · have h3 : 0 < (ns.length : Int) := of_decide_eq_true h2
          obtain ⟨z, hz⟩ := at_some (xs := ns) (i := b % (ns.length : Int)) (Int.emod_nonneg _ (by omega)) (Int.emod_lt_of_pos _ h3)
          exact ⟨_, rfl, p, _, rfl, gC e1, _, rfl, .inl ⟨_, rfl, _, rfl, _, _, rfl, rfl, h3, c, _, _, _, rfl, rfl, SqL.of hc1, hz, rfl, z, rfl⟩⟩
        · exact ⟨rfl, _, rfl⟩
      · rintro _ _ ⟨rfl, cell, rfl⟩
        have pen1 : Pen H1 p c ns (B + 1) := ⟨⟨_, _, e1, by omega, by omega, hr0⟩, hc1, hl, by omega⟩
        refine ⟨fun σ H' => H1 = H' ∧ σ = [some (.ref p), some (.int m), none, some (.int b), some (.int (ns.length : Int)), some (.int cell), none], ?_, ?_⟩
        · refine ⟨_, rfl, _, rfl, _, _, rfl, rfl, _, rfl, ?_⟩
          refine ite2 (fun h2 => ?_) (fun h2 => ⟨rfl, rfl⟩)
          refine ⟨_, rfl, cell, rfl, 10, 18, rfl, rfl, ⟨by decide, by decide, by decide⟩, _, _, rfl, rfl, _, rfl, ?_⟩
          refine ite2 (fun h4 => ?_) (fun h4 => ⟨rfl, rfl⟩)
          have h5 : (10 : Int) ^ (18 : Int).toNat ≤ (if cell < 0 then -cell else cell) := of_decide_eq_true h4
          refine ⟨_, rfl, cell, rfl, 10, 18, rfl, rfl, ⟨by decide, by decide, by decide⟩, _, _, rfl, rfl, _, rfl, _, _, rfl, rfl, divW 8000 hm hmb (by decide), _, rfl, p, _, rfl, pR _ e1, ?_⟩
          refine ⟨_, rfl, cell, rfl, 10, 18, rfl, rfl, ⟨by decide, by decide, by decide⟩, _, _, rfl, rfl, _, rfl, _, _, rfl, rfl, hm, ?_⟩
          exact k _ _ (Int.emod_nonneg _ (by omega)) (Int.emod_lt_of_pos _ hm) ⟨⟨_, _, upd_same, by omega, by omega, Int.ediv_nonneg (by omega) (by omega)⟩, by rw [upd_ne ncp]; exact hc1, hl, by omega⟩ (but1.upd _)
        · rintro _ _ ⟨rfl, rfl⟩
          -- the stir
          have m1 : ∀ x y : Int, 0 < y → y < 2 ^ 32 → (x % y).natAbs < 2 ^ 32 := fun x y h0 h1 => by
            have := Int.emod_nonneg x (show y ≠ 0 by omega)
            have := Int.emod_lt_of_pos x h0
            omega
          have M : ∀ x y : Int, 0 < y → y < 2 ^ 32 → (x % y).natAbs < 2 ^ 32 := m1
          refine ⟨_, rfl, .inl ⟨_, rfl, _, _, rfl, rfl, (show (0 : Int) < 4294967231 by decide), _, _, rfl, rfl, mulW 32 16 (M _ _ (by decide) (by decide)) (by decide) (by decide), _, rfl, _, _, rfl, rfl, mulW 16 30 (by decide) bnd (by decide), _, rfl, _, _, rfl, rfl, mulW 46 30 ?_ bnd (by decide), _, _, rfl, rfl, _, _, rfl, rfl, .inl ⟨_, rfl, _, _, rfl, rfl, (show (0 : Int) < 4294967279 by decide), ?_⟩⟩⟩
          · rw [Int.natAbs_mul]
            exact Nat.lt_of_lt_of_le (Nat.mul_lt_mul_of_le_of_lt (Nat.le_refl _) bnd (by decide)) (by decide)
          refine ⟨_, rfl, _, rfl, _, _, rfl, rfl, mulW 32 32 (M _ _ (by decide) (by decide)) (M _ _ (by decide) (by decide)) (by decide), _, rfl, _, _, rfl, rfl, mulW 17 32 (by decide) (M _ _ (by decide) (by decide)) (by decide), _, _, rfl, rfl, _, rfl, _, _, rfl, rfl, mulW 5 30 (by decide) bnd (by decide), _, _, rfl, rfl, _, _, rfl, rfl, .inl ⟨_, rfl, _, _, rfl, rfl, (show (0 : Int) < 4294967291 by decide), ?_⟩⟩
          refine ⟨_, rfl, _, rfl, _, _, rfl, rfl, _, _, rfl, rfl, mulW 32 33 (M _ _ (by decide) (by decide)) (add_small (M _ _ (by decide) (by decide))) (by decide), .inl ⟨_, rfl, _, _, rfl, rfl, (show (0 : Int) < 4294967197 by decide), _, _, rfl, rfl, divW 7 (by decide) (by decide) (by decide), ?_⟩⟩
          refine ⟨_, rfl, .inl ⟨_, rfl, _, rfl, _, _, rfl, rfl, hm, ?_⟩⟩
          exact k _ _ (Int.emod_nonneg _ (by omega)) (Int.emod_lt_of_pos _ hm) pen1 but1
end
end EN

namespace EN
open PySem L2 PyProof.Rows
section
variable {P : Program} {w : World} {K : PySem.W.Frag} {mg : Str → Option Value} {base : Heap} {f : Addr} {fd : FuncData}
/-! ### sizes of numbers -/
def Sz (b : Nat) (x : Int) : Prop := x.natAbs < 2 ^ b
theorem Sz.mono {a b : Nat} {x : Int} (h : Sz a x) (hab : a ≤ b) : Sz b x := Nat.lt_of_lt_of_le h (Nat.pow_le_pow_right (by decide) hab)
theorem Sz.add {a : Nat} {x y : Int} (h : Sz a x) (g : Sz a y) : Sz (a + 1) (x + y) := by
  unfold Sz at *
  have := Int.natAbs_add_le x y
  rw [Nat.pow_succ]
  omega
theorem Sz.neg {a : Nat} {x : Int} (h : Sz a x) : Sz a (-x) := by
  unfold Sz at *
  rwa [Int.natAbs_neg]
theorem Sz.sub {a : Nat} {x y : Int} (h : Sz a x) (g : Sz a y) : Sz (a + 1) (x - y) := by
  have := h.add g.neg
  rwa [← Int.sub_eq_add_neg] at this
theorem Sz.mul {a b : Nat} {x y : Int} (h : Sz a x) (g : Sz b y) : Sz (a + b) (x * y) := by
  unfold Sz at *
  rw [Int.natAbs_mul, Nat.pow_add]
  exact Nat.mul_lt_mul_of_lt_of_le h (Nat.le_of_lt g) (Nat.two_pow_pos b)
theorem Sz.mulOk {a b : Nat} {x y : Int} (h : Sz a x) (g : Sz b y) (hab : a + b ≤ 999990) : CMulW x y := mulW a b h g hab
theorem Sz.le {a : Nat} {x : Int} {m : Nat} (h0 : x.natAbs ≤ m) (hm : m < 2 ^ a) : Sz a x := Nat.lt_of_le_of_lt h0 hm
theorem Sz.div {a : Nat} {x y : Int} (h : Sz a x) : Sz a (x / y) := by
  unfold Sz at *
  exact Nat.lt_of_le_of_lt (Int.natAbs_ediv_le_natAbs x y) h

/-! ### promises -/
def spPick (K : PySem.W.Frag) : Sp := fun vs H Q _ => ∃ (p c : Addr) (ns : List Int) (B : Nat) (l : Addr) (xs : List V), vs = [.ref p, .ref l] ∧ Pen H p c ns B ∧ B < 1000000000 ∧ (SqL K H l xs ∨ SqT K H l xs) ∧ 0 < xs.length ∧ xs.length ≤ 1000 ∧
  ∀ x ∈ xs, ∀ H' : Hp, Pen H' p c ns (B + 1) → But p H H' → Q x H'
def spWhole : Sp := fun vs H Q _ => ∃ i : Int, vs = [.int i] ∧ Q (.bl true) H
def spGreat : Sp := fun vs H Q _ => ∃ (p c : Addr) (ns : List Int) (B : Nat) (m : Int), vs = [.ref p, .int m] ∧ Pen H p c ns B ∧ B + 20 ≤ 1000000000 ∧ 0 < m ∧ Sz 300 m ∧
  ∀ (d : Int) (H' : Hp), 0 ≤ d → d < m → Pen H' p c ns (B + 20) → But p H H' → Q (.int d) H'
def spInteger : Sp := fun vs H Q _ => ∃ (p c : Addr) (ns : List Int) (B : Nat), vs = [.ref p] ∧ Pen H p c ns B ∧ B + 30 ≤ 1000000000 ∧
  ∀ (z : Int) (H' : Hp), Sz 200 z → Pen H' p c ns (B + 30) → But p H H' → Q (.int z) H'
def spFar : Sp := fun vs H Q _ => ∃ (p c : Addr) (ns : List Int) (B : Nat), vs = [.ref p] ∧ Pen H p c ns B ∧ B + 30 ≤ 1000000000 ∧
  ∀ (z : Int) (H' : Hp), 0 ≤ z → Sz 340 z → Pen H' p c ns (B + 30) → But p H H' → Q (.int z) H'
end
end EN

namespace EN
open PySem L2 PyProof.Rows
section
variable {P : Program} {w : World} {K : PySem.W.Frag} {mg : Str → Option Value} {base : Heap} {f : Addr} {fd : FuncData}
def spIsWhole : Sp := fun vs H Q _ => ∃ i : Int, vs = [.int i] ∧ Q (.bl true) H
def spCheckWhole : Sp := fun vs H Q _ => ∃ i : Int, vs = [.int i] ∧ Q .non H
def spCheckFrom : Sp := fun vs H Q _ => ∃ i b : Int, vs = [.int i, .int b] ∧ b ≤ i ∧ Q .non H
abbrev SeqI (K : PySem.W.Frag) (H : Hp) (a : Addr) (r : List Int) : Prop := SqL K H a (r.map V.int) ∨ SqT K H a (r.map V.int)
def spCheckWholes (K : PySem.W.Frag) : Sp := fun vs H Q _ => ∃ (a : Addr) (r : List Int), vs = [.ref a] ∧ SeqI K H a r ∧ r.length ≤ 1000 ∧ ∀ H' : Hp, Same H H' → Q .non H'
def spChooses : Sp := fun vs H Q _ => ∃ (n : Int) (m : Nat), vs = [.int n, .int (m : Int)] ∧ m ≤ 16 ∧ Sz 400 n ∧ ∀ (l : Addr) (H' : Hp), Same H H' → H l = none → H' l = some (.lst (((List.range m).map fun k => M.C n k).map V.int)) → Q (.ref l) H'
def spRowValue (K : PySem.W.Frag) : Sp := fun vs H Q _ => ∃ (a : Addr) (r : List Int) (n : Int), vs = [.ref a, .int n] ∧ SqT K H a (r.map V.int) ∧ r.length ≤ 12 ∧ (∀ x ∈ r, Sz 9000 x) ∧ Sz 400 n ∧ ∀ H' : Hp, Same H H' → Q (.int (M.val r n)) H'
theorem int_at {r : List Int} {i : Nat} {x : V} (h : (r.map V.int)[i]? = some x) : i < r.length ∧ x = V.int (r.getD i 0) := by
  rw [List.getElem?_map] at h
  cases e : r[i]? with
  | none => rw [e] at h; cases h
  | some j =>
    rw [e] at h
    refine ⟨(List.getElem?_eq_some_iff.mp e).1, ?_⟩
    rw [List.getD_eq_getElem?_getD, e]
    exact (Option.some.inj h).symm
end
end EN

namespace EN.M
theorem valF_sum (n : Int) : ∀ (r : List Int) (j : Nat), valF j r n = ((List.range r.length).map fun k => r.getD k 0 * C n (j + k)).sum
  | [], j => rfl
  | a :: r, j => by
    rw [valF, valF_sum n r (j + 1), List.length_cons, List.range_succ_eq_map, List.map_cons, List.map_map, List.sum_cons]
    congr 1
    congr 1
    refine List.map_congr_left fun k _ => ?_
    show r.getD k 0 * C n (j + 1 + k) = (a :: r).getD (k + 1) 0 * C n (j + (k + 1))
    rw [List.getD_cons_succ, show j + 1 + k = j + (k + 1) by omega]
theorem val_sum (n : Int) (r : List Int) : val r n = ((List.range r.length).map fun k => r.getD k 0 * C n k).sum := by
  have h := valF_sum n r 0
  simp only [Nat.zero_add] at h
  exact h
theorem diffs_eq (l : List Int) : diffs l = (List.range (l.length - 1)).map fun k => l.getD (k + 1) 0 - l.getD k 0 := by
  refine List.ext_getElem? fun k => ?_
  by_cases h : k < l.length - 1
  · have h0 : k < l.length := by omega
    have h1 : k + 1 < l.length := by omega
    rw [diffs_get l k _ _ (List.getElem?_eq_getElem h0) (List.getElem?_eq_getElem h1)]
    simp [h, List.getD_eq_getElem?_getD, List.getElem?_eq_getElem h0, List.getElem?_eq_getElem h1]
  · have e1 : (diffs l)[k]? = none := List.getElem?_eq_none_iff.mpr (by rw [diffs_len]; omega)
    have e2 : ((List.range (l.length - 1)).map fun k => l.getD (k + 1) 0 - l.getD k 0)[k]? = none := List.getElem?_eq_none_iff.mpr (by rw [List.length_map, List.length_range]; omega)
    rw [e1, e2]
theorem cutN_zero (r : List Int) (e : Nat) (h : r[e]? = some 0) : cutN r (e + 1) = cutN r e := by
  show (if r[e]? = some 0 then cutN r e else e + 1) = _
  rw [if_pos h]
theorem cutN_stop (r : List Int) (e : Nat) (h : r[e]? ≠ some 0) : cutN r (e + 1) = e + 1 := by
  show (if r[e]? = some 0 then cutN r e else e + 1) = _
  rw [if_neg h]
end EN.M

namespace EN.M
/-! ### sums over an initial part -/
theorem sum_add (l : List Nat) (f g : Nat → Int) : (l.map fun k => f k + g k).sum = (l.map f).sum + (l.map g).sum := by
  induction l with
  | nil => rfl
  | cons a l ih => simp only [List.map_cons, List.sum_cons, ih]; omega
theorem sum_mul (l : List Nat) (f : Nat → Int) (c : Int) : (l.map fun k => f k * c).sum = (l.map f).sum * c := by
  induction l with
  | nil => simp
  | cons a l ih => simp only [List.map_cons, List.sum_cons, ih, Int.add_mul]
theorem sum_zero (l : List Nat) (f : Nat → Int) (h : ∀ k ∈ l, f k = 0) : (l.map f).sum = 0 := by
  induction l with
  | nil => rfl
  | cons a l ih => simp only [List.map_cons, List.sum_cons, h a List.mem_cons_self, ih fun k hk => h k (List.mem_cons_of_mem _ hk)]; rfl
/-- a row's value, by any number of members that is enough -/
theorem val_upto (n : Int) (r : List Int) {m : Nat} (h : r.length ≤ m) : val r n = ((List.range m).map fun k => r.getD k 0 * C n k).sum := by
  obtain ⟨d, rfl⟩ : ∃ d, m = r.length + d := ⟨m - r.length, by omega⟩
  rw [val_sum, List.range_add, List.map_append, List.sum_append, List.map_map, sum_zero (List.range d), Int.add_zero]
  intro k _
  show r.getD (r.length + k) 0 * C n (r.length + k) = 0
  rw [List.getD_eq_getElem?_getD, List.getElem?_eq_none (by omega)]
  simp
theorem val_range (n : Int) (m : Nat) (g : Nat → Int) : val ((List.range m).map g) n = ((List.range m).map fun k => g k * C n k).sum := by
  rw [val_sum, List.length_map, List.length_range]
  congr 1
  refine List.map_congr_left fun k hk => ?_
  have hk := List.mem_range.mp hk
  rw [List.getD_eq_getElem?_getD, List.getElem?_map, List.getElem?_range hk]
  rfl
/-! ### one row for each function -/
theorem cutN_append (r s : List Int) : ∀ e, e ≤ r.length → cutN (r ++ s) e = cutN r e
  | 0, _ => rfl
  | e + 1, h => by
    unfold cutN
    rw [List.getElem?_append_left (by omega), cutN_append r s e (by omega)]
theorem cut_snoc (r : List Int) : cut (r ++ [0]) = cut r := by
  unfold cut
  have e1 : (r ++ [0]).length = r.length + 1 := by simp
  rw [e1, cutN_zero _ _ (by simp), cutN_append r [0] _ (Nat.le_refl _)]
  have := cutN_le r r.length
  rw [List.take_append_of_le_length this]
theorem cut_zeros (r : List Int) : ∀ d, cut (r ++ List.replicate d 0) = cut r
  | 0 => by simp
  | d + 1 => by
    rw [List.replicate_succ', ← List.append_assoc, cut_snoc, cut_zeros r d]
theorem val_zeros (r : List Int) (d : Nat) (n : Int) : val (r ++ List.replicate d 0) n = val r n := by
  rw [val, valF_append, valF_zeros, Int.add_zero]
  rfl
theorem cut_unique {r s : List Int} (h : ∀ k : Nat, val r (k : Int) = val s (k : Int)) : cut r = cut s := by
  rw [← cut_zeros r s.length, ← cut_zeros s r.length]
  congr 1
  refine row_unique _ _ (by simp; omega) fun k _ => ?_
  rw [val_zeros, val_zeros, h]
theorem cut_fun {r s : List Int} {f : Int → Int} (hr : ∀ n, val r n = f n) (hs : ∀ n, val s n = f n) : cut r = cut s := cut_unique fun k => by rw [hr, hs]
theorem cut_cut (r : List Int) : cut (cut r) = cut r := cut_unique fun k => cut_val r k
/-! ### functions of a degree below m -/
def Deg : Nat → (Int → Int) → Prop
  | 0, f => ∀ n, f n = 0
  | m + 1, f => Deg m fun n => f (n + 1) - f n
theorem Deg.congr {f g : Int → Int} (h : ∀ n, f n = g n) {m : Nat} (d : Deg m f) : Deg m g := by
  obtain rfl : f = g := funext h
  exact d
theorem Deg.zero {f : Int → Int} (h : ∀ n, f n = 0) : ∀ m, Deg m f
  | 0 => h
  | m + 1 => Deg.zero (fun n => by rw [h, h]; rfl) m
theorem Deg.succ : ∀ {m : Nat} {f : Int → Int}, Deg m f → Deg (m + 1) f
  | 0, f, d => fun n => by show f (n + 1) - f n = 0; rw [d, d]; rfl
  | m + 1, f, d => Deg.succ (m := m) d
theorem Deg.mono {m k : Nat} {f : Int → Int} (d : Deg m f) (h : m ≤ k) : Deg k f := by
  obtain ⟨j, rfl⟩ := Nat.exists_eq_add_of_le h
  clear h
  induction j with
  | zero => exact d
  | succ j ih => exact ih.succ
theorem Deg.add : ∀ {m : Nat} {f g : Int → Int}, Deg m f → Deg m g → Deg m fun n => f n + g n
  | 0, f, g, a, b => fun n => by show f n + g n = 0; rw [a, b]; rfl
  | m + 1, f, g, a, b => (Deg.add (m := m) a b).congr fun n => by
    show f (n + 1) - f n + (g (n + 1) - g n) = f (n + 1) + g (n + 1) - (f n + g n)
    omega
theorem Deg.shift (k : Int) : ∀ {m : Nat} {f : Int → Int}, Deg m f → Deg m fun n => f (n + k)
  | 0, f, a => fun n => a _
  | m + 1, f, a => (Deg.shift k (m := m) a).congr fun n => by
    show f (n + k + 1) - f (n + k) = f (n + 1 + k) - f (n + k)
    rw [show n + k + 1 = n + 1 + k by omega]
theorem Deg.mul : ∀ (N a b : Nat), a + b = N → ∀ {f g : Int → Int}, Deg (a + 1) f → Deg (b + 1) g → Deg (N + 1) fun n => f n * g n := by
  intro N
  induction N with
  | zero =>
    intro a b e f g hf hg
    obtain ⟨rfl, rfl⟩ : a = 0 ∧ b = 0 := by omega
    intro n
    have h1 : f (n + 1) - f n = 0 := hf n
    have h2 : g (n + 1) - g n = 0 := hg n
    show f (n + 1) * g (n + 1) - f n * g n = 0
    rw [show f (n + 1) = f n by omega, show g (n + 1) = g n by omega, Int.sub_self]
  | succ N ih =>
    intro a b e f g hf hg
    have p1 : Deg (N + 1) fun n => f (n + 1) * (g (n + 1) - g n) := by
      cases b with
      | zero => exact Deg.zero (fun n => by rw [show g (n + 1) - g n = 0 from hg n, Int.mul_zero]) _
      | succ b => exact ih a b (by omega) (f := fun n => f (n + 1)) (g := fun n => g (n + 1) - g n) (hf.shift 1) hg
    have p2 : Deg (N + 1) fun n => (f (n + 1) - f n) * g n := by
      cases a with
      | zero => exact Deg.zero (fun n => by rw [show f (n + 1) - f n = 0 from hf n, Int.zero_mul]) _
      | succ a => exact ih a b (by omega) (f := fun n => f (n + 1) - f n) (g := g) hf hg
    refine Deg.congr (m := N + 1) (g := fun n => f (n + 1) * g (n + 1) - f n * g n) (fun n => ?_) (p1.add p2)
    show f (n + 1) * (g (n + 1) - g n) + (f (n + 1) - f n) * g n = f (n + 1) * g (n + 1) - f n * g n
    rw [Int.mul_sub, Int.sub_mul]
    omega
theorem deg_val : ∀ r : List Int, Deg r.length (val r)
  | [] => fun n => rfl
  | a :: r => by
    refine Deg.congr (m := r.length) (f := val r) (g := fun n => val (a :: r) (n + 1) - val (a :: r) n) (fun n => ?_) (deg_val r)
    rw [val_cons, val_cons, valF1_step]
    omega
theorem diffs_vals (f : Int → Int) : ∀ m, diffs (vals f (m + 1)) = vals (fun n => f (n + 1) - f n) m := fun m => by
  refine List.ext_getElem? fun k => ?_
  by_cases h : k < m
  · rw [diffs_get _ k _ _ (vals_get f (m + 1) k (by omega)) (vals_get f (m + 1) (k + 1) (by omega)), vals_get _ m k h]
    rfl
  · rw [List.getElem?_eq_none (by rw [diffs_len, vals_len]; omega), List.getElem?_eq_none (by rw [vals_len]; omega)]
theorem newton : ∀ (m : Nat) {f : Int → Int}, Deg m f → ∀ n, val (thr (vals f m)) n = f n
  | 0, f, d, n => (d n).symm
  | m + 1, f, d, n => by
    have ih := newton m (f := fun n => f (n + 1) - f n) d
    have e : vals f (m + 1) = f 0 :: (vals f (m + 1)).drop 1 := by
      unfold vals
      rw [List.range_succ_eq_map]
      rfl
    rw [e, thr_cons, ← e, diffs_vals, val_cons]
    refine int_ind (p := fun n => f 0 + valF 1 (thr (vals (fun n => f (n + 1) - f n) m)) n = f n) ?_ (fun n h => ?_) (fun n h => ?_) n
    · rw [valF_at0, Int.add_zero]
    · rw [valF1_step, ih]; omega
    · rw [valF1_step, ih] at h; omega
/-! ### sums, products, multiples, moves -/
def add (r s : List Int) : List Int := (List.range r.length).map fun k => if k < s.length then r.getD k 0 + s.getD k 0 else r.getD k 0
theorem add_val {r s : List Int} (h : s.length ≤ r.length) (n : Int) : val (add r s) n = val r n + val s n := by
  rw [add, val_range, val_upto n r (Nat.le_refl _), val_upto n s h, ← sum_add]
  congr 1
  refine List.map_congr_left fun k _ => ?_
  split
  · rw [Int.add_mul]
  · rename_i q
    have e : s.getD k 0 = 0 := by rw [List.getD_eq_getElem?_getD, List.getElem?_eq_none (by omega)]; rfl
    rw [e, Int.zero_mul, Int.add_zero]
def plus (r s : List Int) : List Int := if r.length < s.length then add s r else add r s
theorem plus_val (r s : List Int) (n : Int) : val (plus r s) n = val r n + val s n := by
  unfold plus
  split
  · rw [add_val (by omega), Int.add_comm]
  · exact add_val (by omega) n
theorem add_len (r s : List Int) : (add r s).length = r.length := by simp [add]
theorem plus_len (r s : List Int) : (plus r s).length = max r.length s.length := by
  unfold plus
  split
  · rw [add_len]; omega
  · rw [add_len]; omega
def times (r : List Int) (c : Int) : List Int := r.map fun a => a * c
theorem times_val (r : List Int) (c n : Int) : val (times r c) n = val r n * c := by
  rw [val_upto n (times r c) (m := r.length) (by simp [times]), val_upto n r (Nat.le_refl _), ← sum_mul]
  congr 1
  refine List.map_congr_left fun k hk => ?_
  have hk := List.mem_range.mp hk
  have e : (times r c).getD k 0 = r.getD k 0 * c := by
    unfold times
    rw [List.getD_eq_getElem?_getD, List.getElem?_map, List.getD_eq_getElem?_getD, List.getElem?_eq_getElem hk]
    rfl
  rw [e, Int.mul_right_comm]
theorem times_len (r : List Int) (c : Int) : (times r c).length = r.length := by simp [times]
def less (r s : List Int) : List Int := plus r (times s (-1))
theorem less_val (r s : List Int) (n : Int) : val (less r s) n = val r n - val s n := by
  rw [less, plus_val, times_val]
  omega
theorem less_len (r s : List Int) : (less r s).length = max r.length s.length := by rw [less, plus_len, times_len]
def prod (r s : List Int) : List Int := if r = [] ∨ s = [] then [] else thr (vals (fun n => val r n * val s n) (r.length + s.length - 1))
theorem deg_prod (r s : List Int) : Deg (r.length + s.length - 1) fun n => val r n * val s n := by
  cases r with
  | nil => exact Deg.zero (fun n => Int.zero_mul _) _
  | cons a r =>
    cases s with
    | nil => exact Deg.zero (fun n => Int.mul_zero _) _
    | cons b s =>
      have h := Deg.mul (r.length + s.length) r.length s.length rfl (deg_val (a :: r)) (deg_val (b :: s))
      exact h.mono (by simp only [List.length_cons]; omega)
theorem prod_val (r s : List Int) (n : Int) : val (prod r s) n = val r n * val s n := by
  unfold prod
  split
  · rename_i h
    rcases h with h | h
    · subst h
      exact (Int.zero_mul _).symm
    · subst h
      exact (Int.mul_zero _).symm
  · exact newton _ (deg_prod r s) n
theorem prod_len (r s : List Int) : (prod r s).length ≤ r.length + s.length - 1 := by
  unfold prod
  split
  · exact Nat.zero_le _
  · rw [thr_len, vals_len]; exact Nat.le_refl _
theorem prod_law (r s : List Int) (n : Int) : val (thr (vals (fun n => val r n * val s n) (r.length + s.length))) n = val r n * val s n :=
  newton _ ((deg_prod r s).mono (by omega)) n
theorem move_law (r : List Int) (k n : Int) : val (thr (vals (fun n => val r (n + k)) r.length)) n = val r (n + k) := newton _ ((deg_val r).shift k) n
/-- a row of multiples, divided -/
theorem times_inj {r : List Int} {s : List Int} {c : Int} (hc : c ≠ 0) (h : ∀ n, val s n * c = val r n * c) (n : Int) : val s n = val r n := Int.eq_of_mul_eq_mul_right hc (h n)
end EN.M

namespace EN
open PySem L2 PyProof.Rows
section
variable {P : Program} {w : World} {K : PySem.W.Frag} {mg : Str → Option Value} {base : Heap} {f : Addr} {fd : FuncData}
/-! ### rows: promises with any bounds -/
theorem ffb {b : Nat} (hb : 6 ≤ b) {n : Int} (h : Sz b n) : ∀ k : Nat, k ≤ 64 → Sz ((b + 1) * k + 1) (M.ff n k)
  | 0, _ => by show (1 : Int).natAbs < 2 ^ ((b + 1) * 0 + 1); rw [Nat.mul_zero]; decide
  | k + 1, hk => by
    have h1 := (ffb hb h k (by omega)).mul (Sz.sub h (Sz.mono (a := 6) (b := b) (x := (k : Int)) (by unfold Sz; omega) hb))
    exact h1.mono (by rw [Nat.mul_succ]; omega)
theorem Cb {b : Nat} (hb : 6 ≤ b) {n : Int} (h : Sz b n) {k : Nat} (hk : k ≤ 64) : Sz ((b + 1) * k + 1) (M.C n k) := Sz.div (ffb hb h k hk)
theorem Cb16 {b : Nat} (hb : 6 ≤ b) {n : Int} (h : Sz b n) {k : Nat} (hk : k ≤ 15) : Sz (15 * b + 16) (M.C n k) := (Cb hb h (by omega)).mono (by
  have : (b + 1) * k ≤ (b + 1) * 15 := Nat.mul_le_mul_left _ hk
  omega)
theorem valFb {b c : Nat} (hb : 6 ≤ b) {n : Int} (hn : Sz b n) : ∀ (r : List Int) (j : Nat), j + r.length ≤ 16 → (∀ x ∈ r, Sz c x) → Sz (c + 15 * b + 16 + r.length) (M.valF j r n)
  | [], j, _, _ => by unfold M.valF Sz; exact Nat.two_pow_pos _
  | a :: r, j, h, hx => by
    rw [List.length_cons] at h
    have h1 := (hx a List.mem_cons_self).mul (Cb16 hb hn (k := j) (by omega))
    have h2 := valFb hb hn r (j + 1) (by omega) (fun x hx' => hx x (List.mem_cons_of_mem _ hx'))
    exact ((h1.mono (b := c + 15 * b + 16 + r.length) (by omega)).add h2).mono (by rw [List.length_cons]; omega)
theorem valb {b c : Nat} (hb : 6 ≤ b) {n : Int} (hn : Sz b n) {r : List Int} (hl : r.length ≤ 16) (hx : ∀ x ∈ r, Sz c x) : Sz (c + 15 * b + 32) (M.val r n) := (valFb hb hn r 0 (by omega) hx).mono (by omega)
theorem diffs_szb {b : Nat} : ∀ l : List Int, (∀ x ∈ l, Sz b x) → ∀ x ∈ M.diffs l, Sz (b + 1) x
  | [], _, x, h => by simp [M.diffs] at h
  | [_], _, x, h => by simp [M.diffs] at h
  | a :: c :: r, hx, x, h => by
    rcases List.mem_cons.mp (show x ∈ (c - a) :: M.diffs (c :: r) from h) with e | e
    · rw [e]
      exact Sz.sub (hx c (by simp)) (hx a (by simp))
    · exact diffs_szb (c :: r) (fun y hy => hx y (List.mem_cons_of_mem _ hy)) x e
theorem thr_szb : ∀ (m : Nat) (l : List Int) (b : Nat), l.length = m → (∀ x ∈ l, Sz b x) → ∀ x ∈ M.thr l, Sz (b + m) x
  | 0, [], b, _, hx, x, h => by simp [M.thr_nil] at h
  | 0, _ :: _, b, e, _, _, _ => by simp at e
  | m + 1, [], b, e, _, _, _ => by simp at e
  | m + 1, a :: r, b, e, hx, x, h => by
    rw [M.thr_cons] at h
    rcases List.mem_cons.mp h with z | z
    · rw [z]; exact (hx a List.mem_cons_self).mono (by omega)
    · exact (thr_szb m (M.diffs (a :: r)) (b + 1) (by rw [M.diffs_len, e]; rfl) (diffs_szb _ hx) x z).mono (by omega)
/-- all members of a row -/
def SzA (c : Nat) (r : List Int) : Prop := ∀ x ∈ r, Sz c x
theorem SzA.mono {a b : Nat} {r : List Int} (h : SzA a r) (hab : a ≤ b) : SzA b r := fun x hx => (h x hx).mono hab
theorem SzA.cut {c : Nat} {r : List Int} (h : SzA c r) : SzA c (M.cut r) := fun x hx => h x (List.mem_of_mem_take hx)
theorem SzA.get {c : Nat} {r : List Int} (h : SzA c r) (k : Nat) : Sz c (r.getD k 0) := by
  rw [List.getD_eq_getElem?_getD]
  cases e : r[k]? with
  | none => exact Nat.two_pow_pos _
  | some x => exact h x (List.mem_of_getElem? e)
theorem SzA.add {c : Nat} {r s : List Int} (h : SzA c r) (g : SzA c s) : SzA (c + 1) (M.add r s) := fun x hx => by
  obtain ⟨k, _, rfl⟩ := List.mem_map.mp hx
  show Sz (c + 1) (if k < s.length then r.getD k 0 + s.getD k 0 else r.getD k 0)
  split
  · exact (h.get k).add (g.get k)
  · exact (h.get k).mono (by omega)
theorem SzA.plus {c : Nat} {r s : List Int} (h : SzA c r) (g : SzA c s) : SzA (c + 1) (M.plus r s) := by
  unfold M.plus
  split
  · exact g.add h
  · exact h.add g
theorem SzA.times {c d : Nat} {r : List Int} {k : Int} (h : SzA c r) (g : Sz d k) : SzA (c + d) (M.times r k) := fun x hx => by
  obtain ⟨a, ha, rfl⟩ := List.mem_map.mp hx
  exact (h a ha).mul g
theorem SzA.less {c : Nat} {r s : List Int} (h : SzA c r) (g : SzA c s) : SzA (c + 2) (M.less r s) := by
  have h1 := g.times (d := 1) (k := -1) (by unfold Sz; decide)
  exact SzA.plus (c := c + 1) (h.mono (by omega)) h1
theorem SzA.prod {c : Nat} {r s : List Int} (h : SzA c r) (g : SzA c s) (lr : r.length ≤ 16) (ls : s.length ≤ 16) (l : r.length + s.length ≤ 32) : SzA (2 * c + 400) (M.prod r s) := by
  unfold M.prod
  split
  · intro x hx
    cases hx
  · refine SzA.mono (a := (2 * c + 244) + (r.length + s.length - 1)) (fun x hx => thr_szb _ _ (2 * c + 244) (by rw [M.vals_len]) (fun y hy => ?_) x hx) (by omega)
    obtain ⟨k, hk, rfl⟩ := List.mem_map.mp hy
    have hk := List.mem_range.mp hk
    have hz : Sz 6 (k : Int) := by unfold Sz; omega
    exact ((valb (by decide) hz lr h).mul (valb (by decide) hz ls g)).mono (by omega)
theorem SzA.ah {c b : Nat} (hb : 6 ≤ b) {k : Int} (hk : Sz b k) {r : List Int} (h : SzA c r) (lr : r.length ≤ 16) : SzA (c + 15 * b + 32) (M.ah r k) := fun x hx => by
  rw [← M.ah_eq] at hx
  obtain ⟨j, _, rfl⟩ := List.mem_map.mp hx
  exact valb hb hk (by rw [List.length_drop]; omega) fun y hy => h y (List.mem_of_mem_drop hy)
theorem cut_len (r : List Int) : (M.cut r).length ≤ r.length := by
  unfold M.cut
  rw [List.length_take]
  omega
def spChs : Sp := fun vs H Q _ => ∃ (n : Int) (m b : Nat), vs = [.int n, .int (m : Int)] ∧ m ≤ 64 ∧ 6 ≤ b ∧ b ≤ 10000 ∧ Sz b n ∧ ∀ (l : Addr) (H' : Hp), Same H H' → H l = none → H' l = some (.lst (((List.range m).map fun k => M.C n k).map V.int)) → Q (.ref l) H'
def spRowV (K : PySem.W.Frag) : Sp := fun vs H Q _ => ∃ (a : Addr) (r : List Int) (n : Int) (b c : Nat), vs = [.ref a, .int n] ∧ SeqI K H a r ∧ r.length ≤ 16 ∧ SzA c r ∧ c ≤ 200000 ∧ 6 ≤ b ∧ b ≤ 10000 ∧ Sz b n ∧ ∀ H' : Hp, Same H H' → Q (.int (M.val r n)) H'
def spRowSum (K : PySem.W.Frag) : Sp := fun vs H Q _ => ∃ (a a' : Addr) (r s : List Int), vs = [.ref a, .ref a'] ∧ SeqI K H a r ∧ SeqI K H a' s ∧ r.length ≤ 900 ∧ s.length ≤ 900 ∧ ∀ (l : Addr) (H' : Hp), Same H H' → H l = none → H' l = some (.lst ((M.plus r s).map V.int)) → Q (.ref l) H'
def spRowSum1 (K : PySem.W.Frag) : Sp := fun vs H Q _ => ∃ (a a' : Addr) (r s : List Int), vs = [.ref a, .ref a'] ∧ SeqI K H a r ∧ SeqI K H a' s ∧ s.length ≤ r.length ∧ r.length ≤ 900 ∧ ∀ (l : Addr) (H' : Hp), Same H H' → H l = none → H' l = some (.lst ((M.add r s).map V.int)) → Q (.ref l) H'
def spRowTimes (K : PySem.W.Frag) : Sp := fun vs H Q _ => ∃ (a : Addr) (r : List Int) (k : Int) (c d : Nat), vs = [.ref a, .int k] ∧ SeqI K H a r ∧ r.length ≤ 900 ∧ SzA c r ∧ Sz d k ∧ c + d ≤ 900000 ∧ ∀ (l : Addr) (H' : Hp), Same H H' → H l = none → H' l = some (.lst ((M.times r k).map V.int)) → Q (.ref l) H'
def spRowLess (K : PySem.W.Frag) : Sp := fun vs H Q _ => ∃ (a a' : Addr) (r s : List Int) (c : Nat), vs = [.ref a, .ref a'] ∧ SeqI K H a r ∧ SeqI K H a' s ∧ r.length ≤ 900 ∧ s.length ≤ 900 ∧ SzA c s ∧ c ≤ 800000 ∧ ∀ (l : Addr) (H' : Hp), Same H H' → H l = none → H' l = some (.lst ((M.less r s).map V.int)) → Q (.ref l) H'
def spRowThr (K : PySem.W.Frag) : Sp := fun vs H Q _ => ∃ (a : Addr) (r : List Int), vs = [.ref a] ∧ SeqI K H a r ∧ r.length ≤ 1000 ∧ ∀ (l : Addr) (H' : Hp), Same H H' → H l = none → H' l = some (.lst ((M.thr r).map V.int)) → Q (.ref l) H'
def spRowProd (K : PySem.W.Frag) : Sp := fun vs H Q _ => ∃ (a a' : Addr) (r s : List Int) (c : Nat), vs = [.ref a, .ref a'] ∧ SeqI K H a r ∧ SeqI K H a' s ∧ r.length ≤ 16 ∧ s.length ≤ 16 ∧ SzA c r ∧ SzA c s ∧ c ≤ 200000 ∧ ∀ (l : Addr) (H' : Hp), Same H H' → H l = none → H' l = some (.lst ((M.prod r s).map V.int)) → Q (.ref l) H'
def spRowAh (K : PySem.W.Frag) : Sp := fun vs H Q _ => ∃ (a : Addr) (r : List Int) (k : Int) (b c : Nat), vs = [.ref a, .int k] ∧ SeqI K H a r ∧ r.length ≤ 16 ∧ SzA c r ∧ c ≤ 200000 ∧ 6 ≤ b ∧ b ≤ 10000 ∧ Sz b k ∧ ∀ (l : Addr) (H' : Hp), Same H H' → H l = none → H' l = some (.lst ((M.ah r k).map V.int)) → Q (.ref l) H'
def spTrim (K : PySem.W.Frag) : Sp := fun vs H Q _ => ∃ (a : Addr) (r : List Int), vs = [.ref a] ∧ SeqI K H a r ∧ r.length ≤ 1000 ∧ ∀ (t : Addr) (H' : Hp), Same H H' → SqT K H' t ((M.cut r).map V.int) → Q (.ref t) H'
end
end EN

/-! zip of three; comprehensions with a test -/
namespace ZK
open PySem PySem.Spec PyProof.Rows L2
def Itz3 (K : PySem.W.Frag) (k1 k2 k3 : Kd) (a b c : Addr) : It :=
  ⟨fun i H => ∃ (xs ys zs : List V) (x y z : V), SqK K H a xs k1 ∧ SqK K H b ys k2 ∧ SqK K H c zs k3 ∧ xs[i]? = some x ∧ ys[i]? = some y ∧ zs[i]? = some z,
    fun i H v H' => ∃ T x y z, v = .ref T ∧ H T = none ∧ H' = upd H T (.tup [x, y, z]) ∧ (∀ xs, SqK K H a xs k1 → xs[i]? = some x) ∧ (∀ ys, SqK K H b ys k2 → ys[i]? = some y) ∧ ∀ zs, SqK K H c zs k3 → zs[i]? = some z,
    fun i H => ∃ xs ys zs : List V, SqK K H a xs k1 ∧ SqK K H b ys k2 ∧ SqK K H c zs k3 ∧ i ≤ xs.length ∧ i ≤ ys.length ∧ i ≤ zs.length ∧ (i = xs.length ∨ i = ys.length ∨ i = zs.length)⟩
theorem turn_z3 {P : Program} {w : World} {K : PySem.W.Frag} {elts : List Expr} {kk : Nat} {tpos : Pos} {k1 k2 k3 : Kd} {a b c z TI TO i1 i2 i3 : Addr} (S : ZipSep3 z TI TO i1 i2 i3 [i1, a] [i2, b] [i3, c]) (n1 : a ≠ i1) (n2 : b ≠ i2) (n3 : c ≠ i3) :
    Turn P w K (.Tuple elts kk tpos) (Itz3 K k1 k2 k3 a b c) [z, TI, TO, i1, i2, i3] z
      (fun i h => IsZip h z TI TO .none ∧ IsTupOf3 h TI (.ref i1) (.ref i2) (.ref i3) ∧ (∃ x y u, IsTupOf3 h TO x y u) ∧ IterK h i1 a i k1 ∧ IterK h i2 b i k2 ∧ IterK h i3 c i k3) where
  mem := by simp
  obj := fun i h st q hq => by
    obtain ⟨hz, hTI, ⟨x, y, u, hTO⟩, h1, h2, h3⟩ := st
    simp only [List.mem_cons, List.mem_nil_iff, or_false] at hq
    rcases hq with rfl | rfl | rfl | rfl | rfl | rfl
    · exact ⟨_, hz, fun v q => nomatch q⟩
    · exact ⟨_, hTI, fun v q => nomatch q⟩
    · exact ⟨_, hTO, fun v q => nomatch q⟩
    · exact iterK_obj h1
    · exact iterK_obj h2
    · exact iterK_obj h3
  keep := fun i h h' st k => by
    obtain ⟨hz, hTI, ⟨x, y, u, hTO⟩, h1, h2, h3⟩ := st
    exact ⟨k z (by simp) _ hz, k TI (by simp) _ hTI, ⟨x, y, u, k TO (by simp) _ hTO⟩, iterK_at h1 fun o q => k i1 (by simp) o q, iterK_at h2 fun o q => k i2 (by simp) o q, iterK_at h3 fun o q => k i3 (by simp) o q⟩
  item := by
    intro X hP hw hK hc i pins s σ H E I hf st hg
    subst hP hw hK
    obtain ⟨hz, hTI, ⟨x0, y0, u0, hTO⟩, h1, h2, h3⟩ := st
    obtain ⟨xs, ys, zs, x, y, t, qx, qy, qz, hx, hy, ht⟩ := hg
    obtain ⟨its1, rv1, p1, _, _⟩ := invK I qx
    obtain ⟨its2, rv2, p2, _, _⟩ := invK I qy
    obtain ⟨its3, rv3, p3, _, _⟩ := invK I qz
    obtain ⟨u1, hu1, ru1⟩ := rv1.get hx
    obtain ⟨u2, hu2, ru2⟩ := rv2.get hy
    obtain ⟨u3, hu3, ru3⟩ := rv3.get ht
    have hh : X.A.in1.handled = none := I.ok.hd hc
    have l1 : i < its1.toArray.size := by simpa using (List.getElem?_eq_some_iff.mp hu1).1
    have l2 : i < its2.toArray.size := by simpa using (List.getElem?_eq_some_iff.mp hu2).1
    have l3 : i < its3.toArray.size := by simpa using (List.getElem?_eq_some_iff.mp hu3).1
    have zlt : z < s.heap.objs.size := Heap.lt_size hz
    refine wpAny_pyNext_zipD3_item S (drawsK hh i1 a n1 its1.toArray k1) (drawsK hh i2 b n2 its2.toArray k2) (drawsK hh i3 c n3 its3.toArray k3) hz hTI hTO ⟨h1, p1⟩ ⟨h2, p2⟩ ⟨h3, p3⟩ l1 l2 l3 fun v1 v2 v3 h' tk pv1 pv2 pv3 z' TO' s1 s2 s3 hT hsz hk => ?_
    have e1 : v1 = u1 := by simpa [hu1] using pv1.symm
    have e2 : v2 = u2 := by simpa [hu2] using pv2.symm
    have e3 : v3 = u3 := by simpa [hu3] using pv3.symm
    subst e1 e2 e3
    refine ⟨_, rfl, wpAny_letOwnedTupleGo_zip (s := { s with heap := h', toks := tk }) z' fun h'' z'' sb => ?_⟩
    have hT2 := (sb.2 _ (Nat.ne_of_gt zlt)).trans hT
    have new : ObjOk X.prog X.w (upd H s.heap.objs.size (.tup [x, y, t])) h'' s.heap.objs.size (.tup [x, y, t]) :=
      ⟨by show 3 ≤ sizeLine; decide, [v1, v2, v3], .cons ru1 (.cons ru2 (.cons ru3 .nil)), ⟨_, hT2, rfl, _, rfl⟩⟩
    have stay : ∀ q o, q ∉ [z, TI, TO, i1, i2, i3] → s.heap.get? q = some o → h''.get? q = some o := fun q o hq e => by
      simp only [List.mem_cons, List.mem_nil_iff, or_false, not_or] at hq
      exact (sb.2 q hq.1).trans (hk q o hq.1 hq.2.2.1 hq.2.2.2.1 hq.2.2.2.2.1 hq.2.2.2.2.2 e)
    have I1 := I.turnedNew (t' := tk) (ch := [z, TI, TO, i1, i2, i3]) stay hf (Nat.le_refl _) new
    refine ⟨.ref s.heap.objs.size, _, I1, rfl, ⟨_, x, y, t, rfl, I.hok.fresh (Nat.le_refl _), rfl, fun l hl => by rw [injK I hl qx]; exact hx, fun l hl => by rw [injK I hl qy]; exact hy, fun l hl => by rw [injK I hl qz]; exact ht⟩, ⟨z'', ?_, ⟨v1, v2, v3, ?_⟩, ?_, ?_, ?_⟩, fun q hqm => ?_⟩
    · exact (sb.2 _ S.TIz).trans (hk _ _ S.TIz S.TITO S.TIi1 S.TIi2 S.TIi3 hTI)
    · exact (sb.2 _ S.TOz).trans TO'
    · exact iterK_at s1.1 fun o q => (sb.2 _ S.zi1.symm).trans q
    · exact iterK_at s2.1 fun o q => (sb.2 _ S.zi2.symm).trans q
    · exact iterK_at s3.1 fun o q => (sb.2 _ S.zi3.symm).trans q
    · have hlt : q < s.heap.objs.size := by
        simp only [List.mem_cons, List.mem_nil_iff, or_false] at hqm
        rcases hqm with rfl | rfl | rfl | rfl | rfl | rfl
        · exact zlt
        · exact Heap.lt_size hTI
        · exact Heap.lt_size hTO
        · obtain ⟨_, e, _⟩ := iterK_obj h1; exact Heap.lt_size e
        · obtain ⟨_, e, _⟩ := iterK_obj h2; exact Heap.lt_size e
        · obtain ⟨_, e, _⟩ := iterK_obj h3; exact Heap.lt_size e
      rw [upd_ne (Nat.ne_of_lt hlt)]
      exact (hf q hqm).1
  done := by
    intro X hP hw hK hc i pins s σ H E I hf st hg
    subst hP hw hK
    obtain ⟨hz, hTI, ⟨x0, y0, u0, hTO⟩, h1, h2, h3⟩ := st
    obtain ⟨xs, ys, zs, qx, qy, qz, le1, le2, le3, hend⟩ := hg
    obtain ⟨its1, rv1, p1, _, _⟩ := invK I qx
    obtain ⟨its2, rv2, p2, _, _⟩ := invK I qy
    obtain ⟨its3, rv3, p3, _, _⟩ := invK I qz
    have hh : X.A.in1.handled = none := I.ok.hd hc
    have e1 := rv1.length
    have e2 := rv2.length
    have e3 := rv3.length
    refine wpAny_pyNext_zipD3_end S (drawsK hh i1 a n1 its1.toArray k1) (drawsK hh i2 b n2 its2.toArray k2) (drawsK hh i3 c n3 its3.toArray k3) hz hTI hTO ⟨h1, p1⟩ ⟨h2, p2⟩ ⟨h3, p3⟩ (by simp; omega) (by simp; omega) (by simp; omega) (by simp; omega) fun h' tk hk => ⟨rfl, ?_⟩
    refine I.turnedL (t' := tk) (ch := [z, TI, TO, i1, i2, i3]) (fun q o hq e => ?_) hf
    simp only [List.mem_cons, List.mem_nil_iff, or_false, not_or] at hq
    exact hk q o hq.1 hq.2.2.1 hq.2.2.2.1 hq.2.2.2.2.1 hq.2.2.2.2.2 e
  self := fun A i s Q E st h => wpAny_pyIter_zip st.1 h
def iZip3 (K : PySem.W.Frag) (k1 k2 k3 : Kd) (ta : TA) : TI := fun σ H R => ta σ H fun vs H1 => ∃ a b c xs ys zs, vs = [.ref a, .ref b, .ref c] ∧ SqK K H1 a xs k1 ∧ SqK K H1 b ys k2 ∧ SqK K H1 c zs k3 ∧ R (Itz3 K k1 k2 k3 a b c) H1
theorem vals3 {x y z : V} {us : List Value} (r : Vals [x, y, z] us) : ∃ u v w, us = [u, v, w] ∧ RelV x u ∧ RelV y v ∧ RelV z w := by
  cases r with
  | cons a r =>
    obtain ⟨u, v, rfl, b, c⟩ := vals2 r
    exact ⟨_, u, v, rfl, a, b, c⟩
theorem pi_zip3 {X : Cx} {e e2 e3 : Expr} {ta : TA} {p pos tpos : Pos} {elts : List Expr} {kk : Nat} (k1 k2 k3 : Kd) (hg : Gl X "zip") (hm : X.mg "zip" = none) (ha : PA X [e, e2, e3] ta)
    (hs : starEach [e, e2, e3] X.env = (false, eval e X.env) :: starEach [e2, e3] X.env := by rfl) (hpl : (backTo pos (starEach [e2, e3] X.env)).any (·.1) = false := by rfl) :
    PI X (.Tuple elts kk tpos) (.Call (.Name "zip" p) [e, e2, e3] [] pos) (iZip3 X.K k1 k2 k3 ta) := by
  refine ⟨fun pins s σ H R I h => ?_⟩
  refine Call_ (ld_blt I hg hm PyProof.Rows.boot_zip (PyProof.Rows.callWith_type1 (thn (ha.run pos pins s σ H _ I h) fun us s1 ⟨vs, H1, I1, r1, q1⟩ => ?_) hs hpl))
  obtain ⟨a, b, c, xs, ys, zs, ex, qx, qy, qz, q⟩ := q1
  subst ex
  obtain ⟨u1, u2, u3, rfl, ra, rb, rc⟩ := vals3 r1
  cases (show u1 = Value.ref a from ra)
  cases (show u2 = Value.ref b from rb)
  cases (show u3 = Value.ref c from rc)
  obtain ⟨its1, rv1, p1, _, la⟩ := invK I1 qx
  obtain ⟨its2, rv2, p2, _, lb⟩ := invK I1 qy
  obtain ⟨its3, rv3, p3, _, lc⟩ := invK I1 qz
  generalize hN : s1.heap.objs.size = N at la lb lc
  have fresh : ∀ q, q ∈ [N + 5, N + 3, N + 4, N, N + 1, N + 2] → FpOk X pins H1 q := fun q hq => by
    have hle : s1.heap.objs.size ≤ q := by
      simp only [List.mem_cons, List.mem_nil_iff, or_false] at hq
      omega
    exact I1.fpOk hle (I1.hok.fresh hle)
  refine zip_begins3 (beginsK a its1.toArray k1) (beginsK b its2.toArray k2) (beginsK c its3.toArray k3) p1 p2 p3 fun h' hz hTI hTO g1 g2 g3 hsz hk => wpAny_pyIter_zip hz ?_
  rw [hN] at hz hTI hTO g1 g2 g3 ⊢
  have I2 : Inv X pins σ H1 { s1 with heap := h' } := I1.kept (t' := s1.toks) hk
  exact ⟨N + 5, [N + 5, N + 3, N + 4, N, N + 1, N + 2], _, _, H1, rfl, I2, turn_z3 (zip_sep3 (fp1 := [a]) (fp2 := [b]) (fp3 := [c]) (by simpa using la) (by simpa using lb) (by simpa using lc)) (Nat.ne_of_lt la) (Nat.ne_of_lt (Nat.lt_succ_of_lt lb))
    (Nat.ne_of_lt (Nat.lt_succ_of_lt (Nat.lt_succ_of_lt lc))), ⟨hz, hTI, ⟨_, _, _, hTO⟩, iterK_first g1, iterK_first g2, iterK_first g3⟩, fresh, q⟩
/-- a comprehension with a test: what is known of the list so far after i turns -/
theorem lc_growF {J : It} {g : TG} {tt : TT} {te : TE} {vs : List Nat} {σ : L2.St} {H1 : Hp} {D : Addr} {Qd : Hp → Prop} (n : Nat) (hn : n < sizeLine) (I : Nat → List V → Hp → Prop) (h0 : I 0 [] (upd H1 D (.lst [])))
    (hgo : ∀ i acc H, i < n → I i acc H → J.go i H) (hstop : ∀ acc H, I n acc H → J.stop n H)
    (hs : ∀ i H x H' acc, i < n → I i acc H → H D = some (.lst acc) → acc.length ≤ i → J.yld i H x H' → ∀ N : Hp → Prop, (∀ H4 acc', I (i + 1) acc' H4 → H4 D = some (.lst acc') → acc'.length ≤ i + 1 → N H4) →
      g x (wipe σ vs) H' fun σ2 H2 => wipe σ2 vs = wipe σ vs ∧ tt σ2 H2 fun b H3 => if b = true then te σ2 H3 fun y H4 => ∃ acc, H4 D = some (.lst acc) ∧ acc.length < sizeLine ∧ N (upd H4 D (.lst (acc ++ [y]))) else N H3)
    (hd : ∀ H acc, I n acc H → H D = some (.lst acc) → acc.length ≤ n → Qd H) :
    ∃ W : Nat → Nat → Hp → Prop, (∃ m, W 0 m (upd H1 D (.lst []))) ∧ ∀ i m H, W i m H →
      (J.stop i H ∧ Qd H) ∨ (J.go i H ∧ ∃ Nx : Hp → Prop, (∀ H', Nx H' → ∃ m', m' < m ∧ W (i + 1) m' H') ∧ ∀ x H', J.yld i H x H' → g x (wipe σ vs) H' fun σ2 H2 => wipe σ2 vs = wipe σ vs ∧ tt σ2 H2 fun b H3 =>
        if b = true then te σ2 H3 fun y H4 => ∃ acc, H4 D = some (.lst acc) ∧ acc.length < sizeLine ∧ Nx (upd H4 D (.lst (acc ++ [y]))) else Nx H3) := by
  refine lc_any n (fun i H => ∃ acc, I i acc H ∧ H D = some (.lst acc) ∧ acc.length ≤ i) ⟨[], h0, upd_same, Nat.le_refl _⟩ (fun i H hi ⟨acc, p, _⟩ => hgo i acc H hi p) (fun H ⟨acc, p, _⟩ => hstop acc H p) (fun i H x H' hi ⟨acc, pI, hD, hl⟩ y => ?_) (fun H ⟨acc, p, hD, hl⟩ => hd H acc p hD hl)
  exact hs i H x H' acc hi pI hD hl y _ fun H4 acc' h4 e4 l4 => ⟨acc', h4, e4, l4⟩
end ZK

/-! lists or tuples: walked, cut, zipped; // by any divisor -/
namespace ZK
open PySem PySem.Spec PyProof.Rows L2
def ItS (K : PySem.W.Frag) : Kd → Addr → It
  | .l, a => Itl K a
  | .t, a => Itt K a
def iSeqK (K : PySem.W.Frag) (tl : TE) : TI := fun σ H R => tl σ H fun x H1 => ∃ a k xs, x = .ref a ∧ SqK K H1 a xs k ∧ R (ItS K k a) H1
theorem pi_seqK {X : Cx} {tg l : Expr} {tl : TE} (hl : PE X l tl) : PI X tg l (iSeqK X.K tl) := by
  refine ⟨fun pins s σ H R I h => ?_⟩
  refine thn (hl.run pins s σ H _ I h) fun v s1 ⟨x, H1, I1, r1, q1⟩ => ?_
  obtain ⟨a, k, xs, e, hq, q⟩ := q1
  subst e
  cases r1
  have fin : ∀ b ∈ [s1.heap.objs.size], FpOk X pins H1 b := fun b hb => by
    have e : b = s1.heap.objs.size := by simpa using hb
    subst e
    exact I1.fpOk (Nat.le_refl _) (I1.hok.fresh (Nat.le_refl _))
  cases k with
  | l =>
    obtain ⟨its, rv, p, hz⟩ := I1.list hq
    refine wpAny_pyIter_list p.isList ?_
    exact ⟨s1.heap.objs.size, [s1.heap.objs.size], _, _, H1, rfl, I1.kept (t' := s1.toks) fun b o e => Heap.get?_push_of_some _ e, turn_list a _, ⟨_, Heap.get?_push_size _ rfl, rfl, rfl⟩, fin, q⟩
  | t =>
    obtain ⟨its, rv, p, hz⟩ := I1.tuple hq
    refine wpAny_pyIter_tuple (show s1.heap.IsTuple a its.toArray from p) ?_
    exact ⟨s1.heap.objs.size, [s1.heap.objs.size], _, _, H1, rfl, I1.kept (t' := s1.toks) fun b o e => Heap.get?_push_of_some _ e, turn_tuple a _, ⟨_, Heap.get?_push_size _ rfl, rfl, rfl⟩, fin, q⟩
def iZip2S (K : PySem.W.Frag) (ta : TA) : TI := fun σ H R => ta σ H fun vs H1 => ∃ k1 k2 a b xs ys, vs = [.ref a, .ref b] ∧ SqK K H1 a xs k1 ∧ SqK K H1 b ys k2 ∧ R (Itz2 K k1 k2 a b) H1
theorem pi_zip2S {X : Cx} {e e2 : Expr} {ta : TA} {p pos tpos : Pos} {elts : List Expr} {kk : Nat} (hg : Gl X "zip") (hm : X.mg "zip" = none) (ha : PA X [e, e2] ta)
    (hs : starEach [e, e2] X.env = (false, eval e X.env) :: starEach [e2] X.env := by rfl) (hpl : (backTo pos (starEach [e2] X.env)).any (·.1) = false := by rfl) :
    PI X (.Tuple elts kk tpos) (.Call (.Name "zip" p) [e, e2] [] pos) (iZip2S X.K ta) := by
  refine ⟨fun pins s σ H R I h => ?_⟩
  refine Call_ (ld_blt I hg hm PyProof.Rows.boot_zip (PyProof.Rows.callWith_type1 (thn (ha.run pos pins s σ H _ I h) fun us s1 ⟨vs, H1, I1, r1, q1⟩ => ?_) hs hpl))
  obtain ⟨k1, k2, a, b, xs, ys, ex, qx, qy, q⟩ := q1
  subst ex
  obtain ⟨u1, u2, rfl, ra, rb⟩ := vals2 r1
  cases (show u1 = Value.ref a from ra)
  cases (show u2 = Value.ref b from rb)
  obtain ⟨its1, rv1, p1, _, la⟩ := invK I1 qx
  obtain ⟨its2, rv2, p2, _, lb⟩ := invK I1 qy
  generalize hN : s1.heap.objs.size = N at la lb
  have fresh : ∀ c, c ∈ [N + 4, N + 2, N + 3, N, N + 1] → FpOk X pins H1 c := fun c hc => by
    have hle : s1.heap.objs.size ≤ c := by
      simp only [List.mem_cons, List.mem_nil_iff, or_false] at hc
      omega
    exact I1.fpOk hle (I1.hok.fresh hle)
  refine zip_begins2 (beginsK a its1.toArray k1) (beginsK b its2.toArray k2) p1 p2 fun h' hz hTI hTO g1 g2 hsz hk => wpAny_pyIter_zip hz ?_
  rw [hN] at hz hTI hTO g1 g2 ⊢
  have I2 : Inv X pins σ H1 { s1 with heap := h' } := I1.kept (t' := s1.toks) hk
  exact ⟨N + 4, [N + 4, N + 2, N + 3, N, N + 1], _, _, H1, rfl, I2, turn_z2 (zip_sep2 (fp1 := [a]) (fp2 := [b]) (by simpa using la) (by simpa using lb)) (Nat.ne_of_lt la) (Nat.ne_of_lt (Nat.lt_succ_of_lt lb)), ⟨hz, hTI, ⟨_, _, hTO⟩, iterK_first g1, iterK_first g2⟩, fresh, q⟩
/-- a comprehension over a list or tuple that stays -/
theorem lc_growS {K : PySem.W.Frag} {a : Addr} {xs : List V} {k : Kd} {g : TG} {te : TE} {vs : List Nat} {σ : L2.St} {H1 : Hp} {D : Addr} {Qd : Hp → Prop} (hn : xs.length < sizeLine) (I : Nat → Hp → Prop) (R : Nat → V → Prop) (h0 : I 0 (upd H1 D (.lst [])))
    (hl : ∀ i H, I i H → SqK K H a xs k)
    (hs : ∀ i x H acc, xs[i]? = some x → I i H → H D = some (.lst acc) → acc.length = i → (∀ j y, acc[j]? = some y → R j y) → ∀ Qn : VK,
      (∀ y H4, R i y → H4 D = some (.lst acc) → I (i + 1) (upd H4 D (.lst (acc ++ [y]))) → Qn y H4) → g x (wipe σ vs) H fun σ2 H2 => wipe σ2 vs = wipe σ vs ∧ te σ2 H2 Qn)
    (hd : ∀ H acc, I xs.length H → H D = some (.lst acc) → acc.length = xs.length → (∀ i y, acc[i]? = some y → R i y) → Qd H) :
    ∃ W : Nat → Nat → Hp → Prop, (∃ m, W 0 m (upd H1 D (.lst []))) ∧ ∀ i m H, W i m H →
      ((ItS K k a).stop i H ∧ Qd H) ∨ ((ItS K k a).go i H ∧ ∃ Nx : Hp → Prop, (∀ H', Nx H' → ∃ m', m' < m ∧ W (i + 1) m' H') ∧ ∀ x H', (ItS K k a).yld i H x H' → g x (wipe σ vs) H' fun σ2 H2 => wipe σ2 vs = wipe σ vs ∧ tYes σ2 H2 fun b H3 =>
        if b = true then te σ2 H3 fun y H4 => ∃ acc, H4 D = some (.lst acc) ∧ acc.length < sizeLine ∧ Nx (upd H4 D (.lst (acc ++ [y]))) else Nx H3) := by
  cases k with
  | l => exact lc_growL (K := K) hn I R h0 hl hs hd
  | t => exact lc_growT (K := K) hn I R h0 hl hs hd
/-- a loop over a list or tuple that stays -/
theorem kindOf {K : PySem.W.Frag} {H : Hp} {a : Addr} {xs : List V} (h : SqL K H a xs ∨ SqT K H a xs) : ∃ k, SqK K H a xs k := h.elim (fun h => ⟨.l, h⟩) fun h => ⟨.t, h⟩
theorem kindTo {K : PySem.W.Frag} {H : Hp} {a : Addr} {xs : List V} : ∀ {k : Kd}, SqK K H a xs k → SqL K H a xs ∨ SqT K H a xs
  | .l, h => .inl h
  | .t, h => .inr h
/-- a part of a list or tuple -/
def rSlS (K : PySem.W.Frag) : V → Option Int → Option Int → Hp → VK → Prop := fun x lo hi H Q => rSlL K x lo hi H Q ∨ rSlA K x lo hi H Q
theorem sl_any {X : Cx} : SlR X (rSlS X.K) := sl_list.or sl_tupA
theorem cut_full {xs : List V} {lo hi : Option Int} (h1 : HT.sIx xs.length 0 lo = 0) (h2 : HT.sIx xs.length xs.length hi = xs.length) : cutV xs lo hi = xs := by
  unfold cutV
  rw [h1, h2]
  simp
theorem slS {K : PySem.W.Frag} {H : Hp} {a : Addr} {xs : List V} {lo hi : Option Int} {Q : VK} : ∀ {k : Kd}, SqK K H a xs k → (∀ p H', Same H H' → SqK K H' p (cutV xs lo hi) k → Q (.ref p) H') → rSlS K (.ref a) lo hi H Q
  | .l, h, q => .inl ⟨a, xs, rfl, h, fun p hp => q p _ (fun c o e => by rw [upd_ne (ne_of_none e hp)]; exact e) (SqL.of upd_same)⟩
  | .t, h, q => .inr ⟨a, xs, rfl, h, fun full => q a H (Same.refl H) (by rw [cut_full full.1 full.2]; exact h), fun _ p hp => q p _ (fun c o e => by rw [upd_ne (ne_of_none e hp)]; exact e) (SqT.of upd_same)⟩
/-- // by any divisor below 2 ^ 9000 that is not 0 -/
def CDivZ (_ j : Int) : Prop := j ≠ 0 ∧ j.natAbs.log2 < 9000
theorem op_fdivZ {X : Cx} : OpR X (binaryOp .FloorDiv) (rI CDivZ fun i j => .int (i.fdiv j)) := opI fun i j _ _ _ _ _ hc q => floordiv_int hc.1 q (.inl (PyProof.noPylong_of_log2 hc.2))
theorem divZ {i j : Int} {b : Nat} (h : j ≠ 0) (hb : j.natAbs < 2 ^ b) (h9 : b ≤ 9000) : CDivZ i j := by
  refine ⟨h, ?_⟩
  have : j.natAbs ≠ 0 := by omega
  exact Nat.lt_of_lt_of_le ((Nat.log2_lt this).mpr hb) h9
end ZK

namespace EN
open PySem L2 PyProof.Rows
section
variable {P : Program} {w : World} {K : PySem.W.Frag} {mg : Str → Option Value} {base : Heap} {f : Addr} {fd : FuncData}
theorem SeqI.same {H H' : Hp} {a : Addr} {r : List Int} (s : Same H H') (h : SeqI K H a r) : SeqI K H' a r := h.elim (fun h => .inl (s.seq h)) fun h => .inr (sqT_same s h)
theorem ixS {H : Hp} {a : Addr} {xs : List V} {i : Int} {x : V} {Q : VK} (hS : SqL K H a xs ∨ SqT K H a xs) (at_ : atI xs i = some x) (q : Q x H) : rIx K (.ref a) (.int i) H Q :=
  hS.elim (fun h => .inl ⟨a, _, _, _, rfl, rfl, h, at_, q⟩) fun h => .inr (.inl ⟨a, _, _, _, rfl, rfl, h, at_, q⟩)
theorem lensI {r : List Int} : (r.map V.int).length = r.length := List.length_map ..
abbrev s_chooses : Stmt := top 13
abbrev N_chooses : List Str := ["n", "many", "found", "worth", "k"]
theorem sc_chooses : FnScope N_chooses ["n", "many"] (defScope s_chooses) := ⟨rfl, rfl, rfl, by decide +kernel, rfl, by decide +kernel, by decide +kernel⟩

theorem ok_chooses (F : Fun K "chooses" "chooses" s_chooses f fd) (T : Blt mg) : FnOk P w K mg base CX0 1 f fd ["n", "many"] spChs := by
  refine F.ok sc_chooses (fun vs H Q E h => ?_) (fun cdv A outer s H vs Q E hr h => ?_)
  · obtain ⟨n, m, b, rfl, _⟩ := h
    rfl
  · obtain ⟨n, m, b, rfl, hm, hb, hb2, hn, k⟩ := h
    refine ⟨_, (pss_cons (ps_set (i := 2) sc_chooses.nd rfl (Or.inl rfl) (pe_lst pa_nil))
    (pss_cons (ps_set (i := 3) sc_chooses.nd rfl (Or.inl rfl) pe_int)
    (pss_cons (ps_for PassesOwn.never rfl (pi_range1 (by rfl) T.range_ (pa_cons (pv 1) pa_nil)) (pg_name (i := 4) sc_chooses.nd rfl (Or.inl rfl))
      (pss_cons (ps_if (pt_cmpR op_gt (pv 4) pe_int (nomark _))
        (pss_one (ps_set (i := 3) sc_chooses.nd rfl (Or.inl rfl) (pe_op op_fdivW (pe_op op_mulW (pv 3) (pe_op op_add (pe_op op_sub (pv 0) (pv 4)) pe_int)) (pv 4))))
        pss_nil)
      (pss_one (ps_expr (pe_bm PySem.F.plainAttrs_list PySem.F.slot_list_append PySem.F.type_list_append mt_append (pv 2) (pa_cons (pv 3) pa_nil))))))
    (pss_one (ps_ret (pv 2)))))), ?_⟩
    refine ⟨(by show 0 ≤ sizeLine; decide), fun d hd => ?_⟩
    refine ⟨_, rfl, (m : Int), rfl, by omega, by omega, ?_⟩
    rw [show ((m : Int)).toNat = m by omega]
    refine for_range (lo := 0) (n := m) (fun i σ H' => ∃ v : Option V, Same H H' ∧ H' d = some (.lst (((List.range i).map fun k => M.C n k).map V.int)) ∧ σ = [some (.int n), some (.int (m : Int)), some (.ref d), some (.int (M.C n (i - 1))), v]) ⟨none, same_new (Same.refl H) _ hd, upd_same, by rw [M.C_zero]; rfl⟩ ?_ ?_
    · rintro i σ H1 hi ⟨v, s1, h1, rfl⟩
      rw [Int.zero_add]
      have fin : ∀ σ', σ' = [some (.int n), some (.int (m : Int)), some (.ref d), some (.int (M.C n i)), some (V.int (i : Int))] → ∃ v : Option V, Same H (upd H1 d (.lst (((List.range i).map fun k => M.C n k).map V.int ++ [.int (M.C n i)]))) ∧
          (upd H1 d (.lst (((List.range i).map fun k => M.C n k).map V.int ++ [.int (M.C n i)]))) d = some (.lst (((List.range (i + 1)).map fun k => M.C n k).map V.int)) ∧ σ' = [some (.int n), some (.int (m : Int)), some (.ref d), some (.int (M.C n (i + 1 - 1))), v] := fun σ' e => by
        refine ⟨_, same_but_new s1 hd, ?_, e⟩
        rw [upd_same, List.range_succ, List.map_append, List.map_append]
        rfl
      refine ⟨_, rfl, _, _, rfl, rfl, _, rfl, ?_⟩
      have hlen : (((List.range i).map fun k => M.C n k).map V.int).length < sizeLine := small1000 (by rw [List.length_map, List.length_map, List.length_range]; omega)
      refine ite2 (fun h2 => ?_) (fun h2 => ?_)
      · have h3 : 0 < (i : Int) := of_decide_eq_true h2
        obtain ⟨j, rfl⟩ : ∃ j, i = j + 1 := ⟨i - 1, by omega⟩
        have hs := Cb hb hn (k := j) (by omega)
        have s2 : Sz (b + 2) (n - ((j + 1 : Nat) : Int) + 1) := Sz.add (a := b + 1) (Sz.sub hn (Sz.mono (a := 6) (by unfold Sz; omega) hb)) (Sz.mono (a := 1) (by unfold Sz; decide) (by omega))
        have hbj : (b + 1) * j + 1 + (b + 2) ≤ 999990 := by
          have : (b + 1) * j ≤ 10001 * 64 := Nat.mul_le_mul (by omega) (by omega)
          omega
        refine ⟨_, rfl, _, rfl, _, rfl, _, _, rfl, rfl, _, _, rfl, rfl, _, _, rfl, rfl, hs.mulOk s2 hbj, _, rfl, _, _, rfl, rfl, divW 10 h3 (by show ((j + 1 : Nat) : Int).natAbs < 2 ^ 10; omega) (by decide), ?_⟩
        have e : M.C n j * (n - ((j + 1 : Nat) : Int) + 1) / ((j + 1 : Nat) : Int) = M.C n (j + 1) := by
          have := M.C_next n j
          rw [show n - ((j + 1 : Nat) : Int) + 1 = n - (j : Int) by omega]
          exact this
        rw [← e] at fin
        exact ⟨_, rfl, .inl ⟨rfl, _, .inl (.inl h1)⟩, _, rfl, d, _, _, rfl, rfl, h1, hlen, fin _ rfl⟩
      · obtain rfl : i = 0 := by
          have : ¬ (0 < (i : Int)) := fun z => h2 (decide_eq_true z)
          omega
        exact ⟨_, rfl, .inl ⟨rfl, _, .inl (.inl h1)⟩, _, rfl, d, _, _, rfl, rfl, h1, hlen, fin _ rfl⟩
    · rintro σ H1 ⟨v, s1, h1, rfl⟩
      exact ⟨_, rfl, k d H1 s1 hd h1⟩
abbrev s_row_value : Stmt := top 14
abbrev N_row_value : List Str := ["row", "n", "count", "worth"]
theorem sc_row_value : FnScope N_row_value ["row", "n"] (defScope s_row_value) := ⟨rfl, rfl, rfl, by decide +kernel, rfl, by decide +kernel, by decide +kernel⟩

theorem get_C {n : Int} {m i : Nat} (h : i < m) : (((List.range m).map fun k => M.C n k).map V.int)[i]? = some (.int (M.C n i)) := by
  rw [List.getElem?_map, List.getElem?_map, List.getElem?_range h]
  rfl
theorem ok_row_value (F : Fun K "row_value" "row_value" s_row_value f fd) (T : Blt mg) (G_chooses : Has P w K mg base 1 "chooses" ["n", "many"] spChs) : FnOk P w K mg base CX0 2 f fd ["row", "n"] (spRowV K) := by
  refine F.ok sc_row_value (fun vs H Q E h => ?_) (fun cdv A outer s H vs Q E hr h => ?_)
  · obtain ⟨a, r, n, b, c, rfl, _⟩ := h
    rfl
  · obtain ⟨a, r, n, b, c, rfl, hS, hl, hx, hc, hb, hb2, hn, k⟩ := h
    obtain ⟨ka, hS⟩ := ZK.kindOf hS
    refine ⟨_, (pss_one (ps_ret (pe_callB (show CallR _ _ (rSum K) from cr_sum rfl) (by rfl) T.sum_ (by decide +kernel) (pa_cons (pe_lc (own := [("count", 2), ("worth", 3)]) (g := gTup K 2 (gCons (gName 2) (gCons (gName 3) gNil))) (tt := tYes) (by rfl) sc_row_value.nd (ZK.pi_zip2S (by rfl) T.zip_ (pa_cons (pv 0) (pa_cons (pe_has G_chooses (hr.mono (by decide)) (pa_cons (pv 1) (pa_cons (pe_callB (show CallR _ _ (rLenQ K) from c_len) (by rfl) T.len_ (by decide +kernel) (pa_cons (pv 0) pa_nil)) pa_nil))) pa_nil))) (blkOk_by (own := [("count", 2), ("worth", 3)]) (N := N_row_value) (sc := defScope s_row_value) (by decide +kernel)) (fun _ _ _ _ _ => (pg_tup rfl (pgs_cons (pg_name (i := 2) sc_row_value.nd rfl (by first | exact Or.inl rfl | exact Or.inr rfl)) (pgs_cons (pg_name (i := 3) sc_row_value.nd rfl (by first | exact Or.inl rfl | exact Or.inr rfl)) pgs_nil)))) (fun _ _ _ _ _ => pts_nil) (fun _ _ _ _ _ => (pe_op op_mulW (pv 2) (pv 3)))) pa_nil)))), ?_⟩
    refine ⟨_, rfl, _, rfl, _, rfl, a, _, rfl, ZK.kindTo hS, n, r.length, b, by rw [List.length_map]; rfl, by omega, hb, hb2, hn, fun l H1 s1 hl1 h1 => ?_⟩
    have hS1 := hS.same s1
    refine ⟨ka, .l, a, l, _, _, rfl, hS1, SqL.of h1, fun D hD => ?_⟩
    refine ZK.lc_grow (J := ZK.Itz2 K ka .l a l) r.length (small1000 (by omega)) (fun _ H' => Same H1 H') (fun i y => y = .int (r.getD i 0 * M.C n i)) (same_new (Same.refl _) _ hD) ?_ ?_ ?_ ?_
    · intro i H2 hi s2
      exact ⟨_, _, _, _, hS1.same s2, SqL.of (s2 _ _ h1), (get_int hi).1, get_C hi⟩
    · intro H2 s2
      refine ⟨_, _, hS1.same s2, SqL.of (s2 _ _ h1), ?_⟩
      simp
    · rintro i H2 x H3 acc hi s2 hacc hal hR ⟨t, u, v, rfl, ht, rfl, gu, gv⟩ Qn hq
      have eu := gu _ (hS1.same s2)
      have ev := gv _ (SqL.of (s2 _ _ h1))
      rw [(get_int hi).1] at eu
      cases eu
      rw [get_C hi] at ev
      cases ev
      have nD : D ≠ t := ne_of_none hacc ht
      refine ⟨t, _, rfl, SqT.of upd_same, rfl, _, _, rfl, _, _, rfl, rfl, rfl, ?_⟩
      refine ⟨_, rfl, _, rfl, _, _, rfl, rfl, (hx.get i).mulOk (Cb16 hb hn (by omega)) (by omega), hq _ _ rfl (by rw [upd_ne nD]; exact hacc) ?_⟩
      exact same_but_new (same_new s2 _ ht) hD
    · intro H2 acc s2 hacc hal hR
      have e := ZK.eq_map hal hR
      refine ⟨D, (List.range r.length).map (fun k => r.getD k 0 * M.C n k), rfl, SqL.of ?_, ?_⟩
      · rw [hacc, e, List.map_map]
        rfl
      · rw [← M.val_sum]
        exact k _ (s1.trans s2)
end
end EN

namespace EN
open PySem L2 PyProof.Rows
section
variable {P : Program} {w : World} {K : PySem.W.Frag} {mg : Str → Option Value} {base : Heap} {f : Addr} {fd : FuncData}
/-- places within a text -/
def lcScope : Expr → Scope
  | .ListComp _ _ sc _ => sc
  | _ => { kind := .function, names := [], isGenerator := false, isCoroutine := false }
def retE : Stmt → Expr
  | .Return (some e) _ => e
  | _ => .Constant .none 0 ⟨0, 0, 0, 0⟩
/-- a comprehension's scope within a def's -/
def relab (sc d : Scope) : Scope := { sc with names := sc.names.map fun (n, k) => if (k == .free && d.kind == .function && d.names.lookup n == some .cell) then (n, .cell) else (n, k) }
abbrev s_row_through : Stmt := top 17
abbrev N_row_through : List Str := ["values", "found", "rest", "k"]
theorem sc_row_through : FnScope N_row_through ["values"] (defScope s_row_through) := ⟨rfl, rfl, rfl, by decide +kernel, rfl, by decide +kernel, by decide +kernel⟩

theorem ok_row_through (F : Fun K "row_through" "row_through" s_row_through f fd) (T : Blt mg) : FnOk P w K mg base CX0 1 f fd ["values"] (spRowThr K) := by
  refine F.ok sc_row_through (fun vs H Q E h => ?_) (fun cdv A outer s H vs Q E hr h => ?_)
  · obtain ⟨a, r, rfl, _⟩ := h
    rfl
  · obtain ⟨a, r, rfl, hS, hl, q⟩ := h
    refine ⟨_, (pss_cons (ps_set (i := 1) sc_row_through.nd rfl (Or.inl rfl) (pe_lst pa_nil))
    (pss_cons (ps_set (i := 2) sc_row_through.nd rfl (Or.inr rfl) (pe_callTy (show CallR _ _ (rListQ K) from c_list) (by rfl) T.list_ (by decide +kernel) (pa_cons (pv 0) pa_nil)))
    (pss_cons (ps_while PassesOwn.never (pt_truth (pv 2) (by intro _; rfl))
      (pss_cons (ps_expr (pe_bm PySem.F.plainAttrs_list PySem.F.slot_list_append PySem.F.type_list_append mt_append (pv 1) (pa_cons (pe_ix (show IxR _ (rIxL K) from ix_list) (pv 2) pe_int (fun _ _ => rfl)) pa_nil)))
      (pss_one (ps_set (i := 2) sc_row_through.nd rfl (Or.inr rfl) (pe_lc (own := [("k", 3)]) (g := gName 3) (tt := tYes) (by rfl) sc_row_through.nd (pi_range1 (by rfl) T.range_ (pa_cons (pe_op op_sub (pe_callB (show CallR _ _ (rLenQ K) from c_len) (by rfl) T.len_ (by decide +kernel) (pa_cons (pv 2) pa_nil)) pe_int) pa_nil)) (blkOk_by (own := [("k", 3)]) (N := N_row_through) (sc := defScope s_row_through) (by decide +kernel)) (fun _ _ _ _ _ => (pg_name (i := 3) sc_row_through.nd rfl (by first | exact Or.inl rfl | exact Or.inr rfl))) (fun _ _ _ _ _ => pts_nil) (fun _ _ _ _ _ => (pe_op op_sub (pe_ix (show IxR _ (rIxL K) from ix_list) (pv 2) (pe_op op_add (pv 3) pe_int) (fun _ _ => rfl)) (pe_ix (show IxR _ (rIxL K) from ix_list) (pv 2) (pv 3) (fun _ _ => rfl)))))))))
    (pss_one (ps_ret (pv 1)))))), ?_⟩
    refine ⟨(by show 0 ≤ sizeLine; decide), fun d hd => ?_⟩
    have s0 := same_new (Same.refl H) (.lst []) hd
    refine ⟨_, rfl, a, _, rfl, hS.elim (fun h => .inl (s0.seq h)) (fun h => .inr (sqT_same s0 h)), fun l hll => ?_⟩
    have ndl : d ≠ l := ne_of_none upd_same hll
    let W : Nat → L2.St → Hp → Prop := fun n σ H' => ∃ (l' : Addr) (cur fnd : List Int), σ = [some (.ref a), some (.ref d), some (.ref l'), none] ∧ n = cur.length ∧ H' l' = some (.lst (cur.map V.int)) ∧ H' d = some (.lst (fnd.map V.int)) ∧ l' ≠ d ∧
      fnd ++ M.thr cur = M.thr r ∧ Same H H' ∧ cur.length + fnd.length ≤ 1000
    refine ⟨W, ⟨_, l, r, [], rfl, rfl, upd_same, by rw [upd_ne ndl, upd_same]; rfl, ndl.symm, rfl, same_new s0 _ hll, by simpa using hl⟩, ?_⟩
    rintro n σ H1 ⟨l', cur, fnd, rfl, rfl, h1, h2, ne, hthr, sm, hlen⟩
    refine ⟨_, rfl, _, .inl ⟨_, SqL.of h1, rfl⟩, ?_⟩
    cases cur with
    | nil =>
      refine iteF ⟨_, rfl, ?_⟩
      rw [M.thr_nil, List.append_nil] at hthr
      rw [hthr] at h2
      exact q d H1 sm hd h2
    | cons x xs =>
      refine iteT ?_
      refine ⟨fun σ' H'' => ∃ n', n' < (x :: xs).length ∧ W n' σ' H'', fun σ' H' h => h, ?_⟩
      refine ⟨_, rfl, .inl ⟨rfl, _, .inl (.inl h2)⟩, _, rfl, l', _, 0, .int x, rfl, rfl, SqL.of h1, at_of (j := 0) rfl rfl, d, _, _, rfl, rfl, h2, ?_, ?_⟩
      · rw [List.length_map]
        exact small1000 (by omega)
      have h3 : (upd H1 d (.lst (fnd.map V.int ++ [.int x]))) l' = some (.lst ((x :: xs).map V.int)) := by rw [upd_ne ne]; exact h1
      have h4 : (upd H1 d (.lst (fnd.map V.int ++ [.int x]))) d = some (.lst ((fnd ++ [x]).map V.int)) := by rw [upd_same, List.map_append]; rfl
      have sm4 : Same H (upd H1 d (.lst (fnd.map V.int ++ [.int x]))) := same_but_new sm hd
      generalize upd H1 d (.lst (fnd.map V.int ++ [.int x])) = H2 at h3 h4 sm4 ⊢
      refine ⟨_, rfl, l', _, rfl, .inl (SqL.of h3), _, _, rfl, rfl, (xs.length : Int), ?_, by omega, ?_, fun D hD => ?_⟩
      · rw [List.length_map, List.length_cons]
        exact congrArg (fun z => [V.int z]) (show ((xs.length + 1 : Nat) : Int) - 1 = (xs.length : Int) by omega)
      · simp only [List.length_cons] at hlen
        omega
      rw [show (xs.length : Int).toNat = xs.length by omega]
      refine ZK.lc_growR xs.length (small1000 (by simp only [List.length_cons] at hlen; omega)) (fun _ H' => Same H2 H') (fun i y => y = .int ((x :: xs).getD (i + 1) 0 - (x :: xs).getD i 0)) (same_new (Same.refl _) _ hD) ?_ ?_
      · intro i H3 acc hi s3 hacc hal hR Qn hq
        have g0 := (get_int (r := x :: xs) (e := i) (by rw [List.length_cons]; omega)).1
        have g1 := (get_int (r := x :: xs) (e := i + 1) (by rw [List.length_cons]; omega)).1
        refine ⟨rfl, _, rfl, _, rfl, _, _, rfl, rfl, l', _, _, _, rfl, rfl, SqL.of (s3 _ _ h3), at_of (by omega) g1, _, rfl, _, rfl, l', _, _, _, rfl, rfl, SqL.of (s3 _ _ h3), at_of (by omega) g0, _, _, rfl, rfl, ?_⟩
        exact hq _ _ rfl hacc (same_but_new s3 hD)
      · intro H3 acc s3 hacc hal hR
        have e := ZK.eq_map hal hR
        have hdiff := M.diffs_eq (x :: xs)
        rw [show (x :: xs).length - 1 = xs.length by simp] at hdiff
        refine ⟨xs.length, by simp, D, M.diffs (x :: xs), fnd ++ [x], rfl, by rw [M.diffs_len]; simp, ?_, s3 _ _ h4, (ne_of_none h4 hD).symm, ?_, sm4.trans s3, ?_⟩
        · rw [hacc, e, hdiff, List.map_map]
          rfl
        · rw [← hthr, M.thr_cons, List.append_assoc]
          rfl
        · rw [M.diffs_len, List.length_append]
          simp only [List.length_cons, List.length_nil] at hlen ⊢
          omega
abbrev s_row_ahead : Stmt := top 19
abbrev N_row_ahead : List Str := ["row", "k", "worths", "j", "i"]
theorem sc_row_ahead : FnScope N_row_ahead ["row", "k"] (defScope s_row_ahead) := ⟨rfl, rfl, rfl, by decide +kernel, rfl, by decide +kernel, by decide +kernel⟩

theorem drop_get {r : List Int} {j i : Nat} : (r.drop j).getD i 0 = r.getD (j + i) 0 := by
  rw [List.getD_eq_getElem?_getD, List.getD_eq_getElem?_getD, List.getElem?_drop]
theorem ok_row_ahead (F : Fun K "row_ahead" "row_ahead" s_row_ahead f fd) (T : Blt mg) (G_chooses : Has P w K mg base 1 "chooses" ["n", "many"] spChs) : FnOk P w K mg base CX0 2 f fd ["row", "k"] (spRowAh K) := by
  refine F.ok sc_row_ahead (fun vs H Q E h => ?_) (fun cdv A outer s H vs Q E hr h => ?_)
  · obtain ⟨a, r, n, b, c, rfl, _⟩ := h
    rfl
  · obtain ⟨a, r, n, b, c, rfl, hS, hl, hx, hc, hb, hb2, hn, k⟩ := h
    refine ⟨_, (pss_cons (ps_set (i := 2) sc_row_ahead.nd rfl (Or.inr rfl) (pe_has G_chooses (hr.mono (by decide)) (pa_cons (pv 1) (pa_cons (pe_callB (show CallR _ _ (rLenQ K) from c_len) (by rfl) T.len_ (by decide +kernel) (pa_cons (pv 0) pa_nil)) pa_nil))))
    (pss_one (ps_ret (pe_lc (own := [("j", 3)]) (g := gName 3) (tt := tYes) (by rfl) sc_row_ahead.nd (pi_range1 (by rfl) T.range_ (pa_cons (pe_callB (show CallR _ _ (rLenQ K) from c_len) (by rfl) T.len_ (by decide +kernel) (pa_cons (pv 0) pa_nil)) pa_nil)) (blkOk_by (own := [("j", 3)]) (N := N_row_ahead) (sc := defScope s_row_ahead) (by decide +kernel)) (fun _ _ _ _ _ => (pg_name (i := 3) sc_row_ahead.nd rfl (by first | exact Or.inl rfl | exact Or.inr rfl))) (fun _ _ _ _ _ => pts_nil) (fun _ _ _ _ _ => (pe_callB (show CallR _ _ (rSum K) from cr_sum rfl) (by rfl) T.sum_ (by decide +kernel) (pa_cons (pe_lc (own := [("i", 4)]) (g := gName 4) (tt := tYes) (by rfl) sc_row_ahead.nd (pi_range2 (by rfl) T.range_ (pa_cons (pv 3) (pa_cons (pe_callB (show CallR _ _ (rLenQ K) from c_len) (by rfl) T.len_ (by decide +kernel) (pa_cons (pv 0) pa_nil)) pa_nil))) (blkOk_by (own := [("i", 4)]) (N := N_row_ahead) (sc := relab (lcScope (retE ((defBody s_row_ahead).getD 1 (.Pass ⟨0, 0, 0, 0⟩)))) (defScope s_row_ahead)) (by decide +kernel)) (fun _ _ _ _ _ => (pg_name (i := 4) sc_row_ahead.nd rfl (by first | exact Or.inl rfl | exact Or.inr rfl))) (fun _ _ _ _ _ => pts_nil) (fun _ _ _ _ _ => (pe_op op_mulW (pe_ix (show IxR _ (rIx K) from ix_seq) (pv 0) (pv 4) (fun _ _ => rfl)) (pe_ix (show IxR _ (rIxL K) from ix_list) (pv 2) (pe_op op_sub (pv 4) (pv 3)) (fun _ _ => rfl))))) pa_nil))))))), ?_⟩
    refine ⟨_, rfl, _, rfl, a, _, rfl, hS, n, r.length, b, by rw [List.length_map]; rfl, by omega, hb, hb2, hn, fun l H1 s1 hl1 h1 => ?_⟩
    have hS1 := SeqI.same s1 hS
    refine ⟨_, rfl, a, _, rfl, hS1, (r.length : Int), by rw [List.length_map], by omega, by omega, fun D hD => ?_⟩
    rw [show (r.length : Int).toNat = r.length by omega]
    refine ZK.lc_growR r.length (small1000 (by omega)) (fun _ H' => Same H1 H') (fun j y => y = .int (M.val (r.drop j) n)) (same_new (Same.refl _) _ hD) ?_ ?_
    · intro j H2 acc hj s2 hacc hal hR Qn hq
      refine ⟨rfl, _, rfl, _, rfl, a, _, rfl, SeqI.same s2 hS1, (0 : Int) + (j : Int), (r.length : Int), by rw [List.length_map], ⟨by omega, by omega, by omega, by omega⟩, fun E2 hE => ?_⟩
      rw [show ((r.length : Int) - (0 + (j : Int))).toNat = r.length - j by omega]
      have nDE : D ≠ E2 := ne_of_none hacc hE
      refine ZK.lc_growR (r.length - j) (small1000 (by omega)) (fun _ H' => Same H2 H') (fun i y => y = .int ((r.drop j).getD i 0 * M.C n i)) (same_new (Same.refl _) _ hE) ?_ ?_
      · intro i H3 acc3 hi s3 hacc3 hal3 hR3 Qn3 hq3
        have g0 := (get_int (r := r) (e := j + i) (by omega)).1
        have hl3 := s3 _ _ (s2 _ _ h1)
        refine ⟨rfl, _, rfl, _, rfl, ixS (SeqI.same s3 (SeqI.same s2 hS1)) (at_of (by omega) g0) ?_⟩
        refine ⟨_, rfl, _, rfl, _, rfl, _, _, rfl, rfl, l, _, _, _, rfl, rfl, SqL.of hl3, at_of (by omega) (get_C (n := n) (i := i) (by omega)), _, _, rfl, rfl, (hx.get (j + i)).mulOk (Cb16 hb hn (by omega)) (by omega), ?_⟩
        refine hq3 _ _ (by rw [drop_get]) hacc3 (same_but_new s3 hE)
      · intro H3 acc3 s3 hacc3 hal3 hR3
        have e := ZK.eq_map hal3 hR3
        refine ⟨E2, (List.range (r.drop j).length).map (fun k => (r.drop j).getD k 0 * M.C n k), rfl, SqL.of ?_, ?_⟩
        · rw [hacc3, e, List.map_map, List.length_drop]
          rfl
        · rw [← M.val_sum]
          exact hq _ _ rfl (s3 _ _ hacc) (same_but_new (s2.trans s3) hD)
    · intro H2 acc s2 hacc hal hR
      have e := ZK.eq_map hal hR
      refine k D H2 (s1.trans s2) (s1.free hD) ?_
      rw [hacc, e, ← M.ah_eq, List.map_map]
      rfl
abbrev s_trimmed : Stmt := top 20
abbrev N_trimmed : List Str := ["row", "end"]
theorem sc_trimmed : FnScope N_trimmed ["row"] (defScope s_trimmed) := ⟨rfl, rfl, rfl, by decide +kernel, rfl, by decide +kernel, by decide +kernel⟩

theorem cutN_eq_len {r : List Int} (h : M.cutN r r.length = r.length) : M.cut r = r := by
  unfold M.cut
  rw [h, List.take_length]
theorem cut_take {r : List Int} (n : Nat) (h : n ≤ r.length) : cutV (r.map V.int) none (some (n : Int)) = (r.take n).map V.int := by
  unfold cutV
  rw [show HT.sIx (r.map V.int).length 0 none = 0 from rfl, HT.sIx_nat, List.drop_zero, Nat.sub_zero, List.length_map, Nat.min_eq_left h, List.map_take]
/-- tuple(a list or tuple) -/
theorem tupQS {H : Hp} {a : Addr} {xs : List V} {Q : VK} : ∀ {k : ZK.Kd}, ZK.SqK K H a xs k → (∀ t H', Same H H' → SqT K H' t xs → Q (.ref t) H') → rTupQ K [.ref a] H Q
  | .l, h, q => ⟨a, xs, rfl, .inl ⟨h, fun t ht => q t _ (same_new (Same.refl _) _ ht) (SqT.of upd_same)⟩⟩
  | .t, h, q => ⟨a, xs, rfl, .inr ⟨h, q a H (Same.refl H) h⟩⟩
theorem ok_trimmed (F : Fun K "trimmed" "trimmed" s_trimmed f fd) (T : Blt mg) : FnOk P w K mg base CX0 1 f fd ["row"] (spTrim K) := by
  refine F.ok sc_trimmed (fun vs H Q E h => ?_) (fun cdv A outer s H vs Q E hr h => ?_)
  · obtain ⟨a, r, rfl, _⟩ := h
    rfl
  · obtain ⟨a, r, rfl, hS, hl, q⟩ := h
    refine ⟨_, (pss_cons (ps_set (i := 1) sc_trimmed.nd rfl (Or.inl rfl) (pe_callB (show CallR _ _ (rLenQ K) from c_len) (by rfl) T.len_ (by decide +kernel) (pa_cons (pv 0) pa_nil)))
    (pss_cons (ps_while PassesOwn.never (PW.pt (pw_and (pt_cmpR op_gt (pv 1) pe_int (nomark _)) (pw_and1 (pt_cmpR op_eq (pe_ix (show IxR _ (rIx K) from ix_seq) (pv 0) (pe_op op_sub (pv 1) pe_int) (fun _ _ => rfl)) pe_int (nomark _)))))
      (pss_one (ps_set (i := 1) sc_trimmed.nd rfl (Or.inl rfl) (pe_op op_sub (pv 1) pe_int))))
    (pss_one (ps_ret (pe_callTy (show CallR _ _ (rTupQ K) from c_tuple) (by rfl) T.tuple_ (by decide +kernel) (pa_cons (pe_slice (show SlR _ (ZK.rSlS K) from ZK.sl_any) (pv 0) po_none (po_some (pv 1))) pa_nil)))))), ?_⟩
    refine ⟨_, rfl, a, _, rfl, hS, ?_⟩
    rw [List.length_map]
    let W : Nat → L2.St → Hp → Prop := fun n σ H' => H' = H ∧ n ≤ r.length ∧ σ = [some (.ref a), some (.int (n : Int))] ∧ M.cutN r n = M.cutN r r.length
    refine ⟨W, ⟨_, rfl, Nat.le_refl _, rfl, rfl⟩, ?_⟩
    rintro n σ H' ⟨rfl, hn, rfl, hc⟩
    have out : M.cutN r r.length = n → tRet (tCB (rTupQ K) (tCons (tSl (ZK.rSlS K) (tVar 0) tNoPart (tPart (tVar 1))) tNil)) { nx := fun _ H' => Q .non H', rt := Q } [some (.ref a), some (.int (n : Int))] H' := fun e => by
      obtain ⟨ka, hk⟩ := ZK.kindOf hS
      refine ⟨_, rfl, _, rfl, _, rfl, ZK.slS hk fun p H1 s1 hp => tupQS hp fun t H2 s2 ht => ?_⟩
      refine q t H2 (s1.trans s2) ?_
      rw [cut_take n hn] at ht
      unfold M.cut
      rw [e]
      exact ht
    refine ⟨_, rfl, _, _, rfl, rfl, _, rfl, ?_⟩
    refine ite2 (fun h1 => ?_) (fun h1 => ?_)
    · have h2 : 0 < (n : Int) := of_decide_eq_true h1
      obtain ⟨e, rfl⟩ : ∃ e, n = e + 1 := ⟨n - 1, by omega⟩
      obtain ⟨g1, g2⟩ := get_int (r := r) (e := e) (by omega)
      refine ⟨_, rfl, _, rfl, _, _, rfl, rfl, ixS hS (at_of (by omega) g1) ⟨rfl, _, rfl, ?_⟩⟩
      refine ite2 (fun h3 => ?_) (fun h3 => ?_)
      · have h4 : r.getD e 0 = 0 := V.int.inj (of_decide_eq_true h3)
        refine ⟨fun σ' H'' => ∃ n', n' < e + 1 ∧ W n' σ' H'', fun σ' H' h => h, ?_⟩
        refine ⟨_, rfl, _, _, rfl, rfl, e, Nat.lt_succ_self e, rfl, by omega, ?_, ?_⟩
        · show [some (V.ref a), some (V.int (((e + 1 : Nat) : Int) - 1))] = _
          rw [show ((e + 1 : Nat) : Int) - 1 = (e : Int) by omega]
        · rw [← hc, M.cutN_zero r e (by rw [g2, h4])]
      · refine out ?_
        rw [← hc]
        refine M.cutN_stop r e fun z => h3 (decide_eq_true ?_)
        rw [g2] at z
        rw [Option.some.inj z]
    · obtain rfl : n = 0 := by
        have : ¬ (0 < (n : Int)) := fun z => h1 (decide_eq_true z)
        omega
      exact out hc.symm
end
end EN

namespace EN
open PySem L2 PyProof.Rows
section
variable {P : Program} {w : World} {K : PySem.W.Frag} {mg : Str → Option Value} {base : Heap} {f : Addr} {fd : FuncData}
/-- lists and tuples of ints as data -/
theorem dpAll_ints {H : Hp} : ∀ r : List Int, DpAll K H (r.map V.int) (r.map PyData.int)
  | [] => .nil
  | a :: r => .cons (.int a) (dpAll_ints r)
theorem dp_lst {H : Hp} {a : Addr} {r : List Int} (h : SqL K H a (r.map V.int)) : Dp K H (.ref a) (.list (r.map PyData.int)) := .lst h (dpAll_ints r)
theorem dp_tup {H : Hp} {a : Addr} {r : List Int} (h : SqT K H a (r.map V.int)) : Dp K H (.ref a) (.tuple (r.map PyData.int)) := .tup h (dpAll_ints r)
theorem shaped_lst (r : List Int) : SeqAt.shaped (.list (r.map PyData.int)) = true := PySem.W.ke_shaped_ints r
theorem shaped_tup (r : List Int) : SeqAt.shaped (.tuple (r.map PyData.int)) = true := by
  simp [SeqAt.shaped, PyData.canLay0, PyData.depth, PySem.W.ke_canLayAll0, PySem.W.ke_depthAll]
theorem eqvAll_ints : ∀ r s : List Int, PyData.eqvAll (r.map PyData.int) (s.map PyData.int) = decide (r = s)
  | [], [] => by simp [PyData.eqvAll]
  | [], b :: s => by simp [PyData.eqvAll]
  | a :: r, [] => by simp [PyData.eqvAll]
  | a :: r, b :: s => by
    simp only [List.map_cons, PyData.eqvAll, PyData.eqv, eqvAll_ints r s]
    by_cases h : a = b <;> by_cases h' : r = s <;> simp [h, h']
theorem eqv_lst (r s : List Int) : PyData.eqv (.list (r.map PyData.int)) (.list (s.map PyData.int)) = decide (r = s) := by
  simp only [PyData.eqv]; exact eqvAll_ints r s
theorem eqv_tup (r s : List Int) : PyData.eqv (.tuple (r.map PyData.int)) (.tuple (s.map PyData.int)) = decide (r = s) := by
  simp only [PyData.eqv]; exact eqvAll_ints r s
end
end EN

namespace EN
open PySem L2 PyProof.Rows
section
variable {P : Program} {w : World} {K : PySem.W.Frag} {mg : Str → Option Value} {base : Heap} {f : Addr} {fd : FuncData}
def spChoose : Sp := fun vs H Q _ => ∃ (n : Int) (k b : Nat), vs = [.int n, .int (k : Int)] ∧ k ≤ 16 ∧ 6 ≤ b ∧ b ≤ 10000 ∧ Sz b n ∧ ∀ H' : Hp, Same H H' → Q (.int (M.C n k)) H'
def spAt (K : PySem.W.Frag) : Sp := fun vs H Q _ => ∃ (a : Addr) (r : List Int) (n : Int) (b c : Nat), vs = [.ref a, .int n] ∧ SeqI K H a r ∧ r.length ≤ 16 ∧ SzA c r ∧ c ≤ 200000 ∧ 6 ≤ b ∧ b ≤ 10000 ∧ Sz b n ∧ ∀ H' : Hp, Same H H' → Q (.int (M.val r n)) H'
def spCut (K : PySem.W.Frag) : Sp := fun vs H Q _ => ∃ (a : Addr) (r : List Int), vs = [.ref a] ∧ SeqI K H a r ∧ r.length ≤ 1000 ∧ ∀ (t : Addr) (H' : Hp), Same H H' → SqT K H' t ((M.cut r).map V.int) → Q (.ref t) H'
def spRowOf (K : PySem.W.Frag) : Sp := fun vs H Q _ => ∃ (a : Addr) (r : List Int), vs = [.ref a] ∧ SeqI K H a r ∧ r.length ≤ 1000 ∧ ∀ (t : Addr) (H' : Hp), Same H H' → SqT K H' t ((M.cut (M.thr r)).map V.int) → Q (.ref t) H'
theorem facb : ∀ k : Nat, k ≤ 16 → Sz (5 * k + 1) (M.fac k)
  | 0, _ => by show (1 : Int).natAbs < 2 ^ 1; decide
  | k + 1, hk => by
    have h1 := (facb k (by omega)).mul (show Sz 5 ((k : Int) + 1) by unfold Sz; omega)
    exact h1.mono (by omega)
abbrev s_choose : Stmt := top 44
abbrev N_choose : List Str := ["_law_n", "_law_k", "_law_above", "_law_below", "_law_j"]
theorem sc_choose : FnScope N_choose ["_law_n", "_law_k"] (defScope s_choose) := ⟨rfl, rfl, rfl, by decide +kernel, rfl, by decide +kernel, by decide +kernel⟩

theorem ok_choose (F : Fun K "_law_choose" "_law_choose" s_choose f fd) (T : Blt mg) : FnOk P w K mg base CX0 1 f fd ["_law_n", "_law_k"] spChoose := by
  refine F.ok sc_choose (fun vs H Q E h => ?_) (fun cdv A outer s H vs Q E hr h => ?_)
  · obtain ⟨n, k, b, rfl, _⟩ := h
    rfl
  · obtain ⟨n, k, b, rfl, hk, hb, hb2, hn, q2⟩ := h
    refine ⟨_, (pss_cons (ps_asg (pe_tup (pa_cons pe_int (pa_cons pe_int pa_nil))) (pg_tup rfl (pgs_cons (pg_name (i := 2) sc_choose.nd rfl (Or.inl rfl)) (pgs_cons (pg_name (i := 3) sc_choose.nd rfl (Or.inl rfl)) pgs_nil))))
    (pss_cons (ps_for PassesOwn.never rfl (pi_range1 (by rfl) T.range_ (pa_cons (pv 1) pa_nil)) (pg_name (i := 4) sc_choose.nd rfl (Or.inl rfl))
      (pss_one (ps_par (i := 2) (j := 3) (by rfl) sc_choose.nd rfl rfl (by decide) rfl rfl (pa_cons (pe_op op_mulW (pv 2) (pe_op op_sub (pv 0) (pv 4))) (pa_cons (pe_op op_mulW (pv 3) (pe_op op_add (pv 4) pe_int)) pa_nil)) (by rfl))))
    (pss_one (ps_ret (pe_op op_fdivW (pv 2) (pv 3)))))), ?_⟩
    refine ⟨(by show 2 ≤ sizeLine; decide), fun t ht => ⟨t, _, rfl, SqT.of upd_same, rfl, _, _, rfl, _, _, rfl, rfl, ?_⟩⟩
    refine ⟨_, rfl, (k : Int), rfl, by omega, by omega, ?_⟩
    rw [show (k : Int).toNat = k by omega]
    refine for_range (lo := 0) (n := k) (fun i σ H' => ∃ v : Option V, H' = upd H t (.tup [.int 1, .int 1]) ∧ σ = [some (.int n), some (.int (k : Int)), some (.int (M.ff n i)), some (.int (M.fac i)), v]) ⟨none, rfl, rfl⟩ ?_ ?_
    · rintro i σ H' hi ⟨v, rfl, rfl⟩
      have s1 : Sz (b + 1) (n - (0 + (i : Int))) := Sz.sub hn (Sz.mono (a := 6) (by unfold Sz; omega) hb)
      have hbi : (b + 1) * i + 1 + (b + 1) ≤ 999990 := by
        have : (b + 1) * i ≤ 10001 * 16 := Nat.mul_le_mul (by omega) (by omega)
        omega
      have s2 : Sz 6 (0 + (i : Int) + 1) := by unfold Sz; omega
      refine ⟨_, rfl, _, rfl, _, rfl, _, _, rfl, rfl, _, _, rfl, rfl, (ffb hb hn i (by omega)).mulOk s1 hbi, _, rfl, _, rfl, _, _, rfl, rfl, _, _, rfl, rfl, (facb i (by omega)).mulOk s2 (by omega), _, _, rfl, ?_⟩
      refine ⟨some (.int (0 + (i : Int))), rfl, ?_⟩
      rw [Int.zero_add]
      rfl
    · rintro σ H' ⟨v, rfl, rfl⟩
      refine ⟨_, rfl, _, rfl, _, _, rfl, rfl, divW 100 (M.fac_pos k) ((facb k hk).mono (by omega)) (by decide), ?_⟩
      exact q2 _ (same_new (Same.refl H) _ ht)
abbrev s_lat : Stmt := top 45
abbrev N_lat : List Str := ["_law_row_here", "_law_n", "_law_k"]
theorem sc_lat : FnScope N_lat ["_law_row_here", "_law_n"] (defScope s_lat) := ⟨rfl, rfl, rfl, by decide +kernel, rfl, by decide +kernel, by decide +kernel⟩

theorem ok_lat (F : Fun K "_law_at" "_law_at" s_lat f fd) (T : Blt mg) (G_choose : Has P w K mg base 1 "_law_choose" ["_law_n", "_law_k"] spChoose) : FnOk P w K mg base CX0 2 f fd ["_law_row_here", "_law_n"] (spAt K) := by
  refine F.ok sc_lat (fun vs H Q E h => ?_) (fun cdv A outer s H vs Q E hr h => ?_)
  · obtain ⟨a, r, n, b, c, rfl, _⟩ := h
    rfl
  · obtain ⟨a, r, n, b, c, rfl, hS, hl, hx, hc, hb, hb2, hn, q⟩ := h
    refine ⟨_, (pss_one (ps_ret (pe_callB (show CallR _ _ (rSum K) from cr_sum rfl) (by rfl) T.sum_ (by decide +kernel) (pa_cons (pe_lc (own := [("_law_k", 2)]) (g := gName 2) (tt := tYes) (by rfl) sc_lat.nd (pi_range1 (by rfl) T.range_ (pa_cons (pe_callB (show CallR _ _ (rLenQ K) from c_len) (by rfl) T.len_ (by decide +kernel) (pa_cons (pv 0) pa_nil)) pa_nil)) (blkOk_by (own := [("_law_k", 2)]) (N := N_lat) (sc := defScope s_lat) (by decide +kernel)) (fun _ _ _ _ _ => (pg_name (i := 2) sc_lat.nd rfl (by first | exact Or.inl rfl | exact Or.inr rfl))) (fun _ _ _ _ _ => pts_nil) (fun _ _ _ _ _ => (pe_op op_mulW (pe_ix (show IxR _ (rIx K) from ix_seq) (pv 0) (pv 2) (fun _ _ => rfl)) (pe_has G_choose (hr.mono (by decide)) (pa_cons (pv 1) (pa_cons (pv 2) pa_nil)))))) pa_nil)))), ?_⟩
    refine ⟨_, rfl, a, _, rfl, hS, (r.length : Int), ?_, by omega, by omega, fun D hD => ?_⟩
    · rw [List.length_map]
    refine ZK.lc_growR r.length (small1000 (by omega)) (fun _ H' => Same H H') (fun i y => y = .int (r.getD i 0 * M.C n i)) (same_new (Same.refl H) _ hD) ?_ ?_
    · intro i H1 acc hi s1 hacc hal hR Qn hq
      refine ⟨rfl, ?_⟩
      have at_ : atI (r.map V.int) (0 + (i : Int)) = some (.int (r.getD i 0)) := at_of (by omega) (get_int hi).1
      refine ⟨_, rfl, _, rfl, ixS (SeqI.same s1 hS) at_ ⟨_, rfl, _, rfl, n, i, b, by rw [Int.zero_add]; rfl, by omega, hb, hb2, hn, fun H2 s2 => ⟨_, _, rfl, rfl, (hx.get i).mulOk (Cb16 hb hn (by omega)) (by omega), hq _ _ rfl (s2 _ _ hacc) (same_but_new (s1.trans s2) hD)⟩⟩⟩
    · intro H1 acc s1 hacc hal hR
      have e := ZK.eq_map hal hR
      refine ⟨D, (List.range r.length).map (fun k => r.getD k 0 * M.C n k), rfl, SqL.of ?_, ?_⟩
      · rw [hacc, e, List.map_map]
        rfl
      · rw [← M.val_sum]
        exact q _ s1
abbrev s_cut : Stmt := top 46
abbrev N_cut : List Str := ["_law_row_here", "_law_many"]
theorem sc_cut : FnScope N_cut ["_law_row_here"] (defScope s_cut) := ⟨rfl, rfl, rfl, by decide +kernel, rfl, by decide +kernel, by decide +kernel⟩

theorem ok_cut (F : Fun K "_law_cut" "_law_cut" s_cut f fd) (T : Blt mg) : FnOk P w K mg base CX0 1 f fd ["_law_row_here"] (spCut K) := by
  refine F.ok sc_cut (fun vs H Q E h => ?_) (fun cdv A outer s H vs Q E hr h => ?_)
  · obtain ⟨a, r, rfl, _⟩ := h
    rfl
  · obtain ⟨a, r, rfl, hS, hl, q⟩ := h
    refine ⟨_, (pss_cons (ps_set (i := 1) sc_cut.nd rfl (Or.inl rfl) (pe_callB (show CallR _ _ (rLenQ K) from c_len) (by rfl) T.len_ (by decide +kernel) (pa_cons (pv 0) pa_nil)))
    (pss_cons (ps_while PassesOwn.never (PW.pt (pw_and (pt_cmpR op_gt (pv 1) pe_int (nomark _)) (pw_and1 (pt_cmpR op_eq (pe_ix (show IxR _ (rIx K) from ix_seq) (pv 0) (pe_op op_sub (pv 1) pe_int) (fun _ _ => rfl)) pe_int (nomark _)))))
      (pss_one (ps_set (i := 1) sc_cut.nd rfl (Or.inl rfl) (pe_op op_sub (pv 1) pe_int))))
    (pss_one (ps_ret (pe_callTy (show CallR _ _ (rTupQ K) from c_tuple) (by rfl) T.tuple_ (by decide +kernel) (pa_cons (pe_slice (show SlR _ (ZK.rSlS K) from ZK.sl_any) (pv 0) po_none (po_some (pv 1))) pa_nil)))))), ?_⟩
    refine ⟨_, rfl, a, _, rfl, hS, ?_⟩
    rw [List.length_map]
    let W : Nat → L2.St → Hp → Prop := fun n σ H' => H' = H ∧ n ≤ r.length ∧ σ = [some (.ref a), some (.int (n : Int))] ∧ M.cutN r n = M.cutN r r.length
    refine ⟨W, ⟨_, rfl, Nat.le_refl _, rfl, rfl⟩, ?_⟩
    rintro n σ H' ⟨rfl, hn, rfl, hc⟩
    have out : M.cutN r r.length = n → tRet (tCB (rTupQ K) (tCons (tSl (ZK.rSlS K) (tVar 0) tNoPart (tPart (tVar 1))) tNil)) { nx := fun _ H' => Q .non H', rt := Q } [some (.ref a), some (.int (n : Int))] H' := fun e => by
      obtain ⟨ka, hk⟩ := ZK.kindOf hS
      refine ⟨_, rfl, _, rfl, _, rfl, ZK.slS hk fun p H1 s1 hp => tupQS hp fun t H2 s2 ht => ?_⟩
      refine q t H2 (s1.trans s2) ?_
      rw [cut_take n hn] at ht
      unfold M.cut
      rw [e]
      exact ht
    refine ⟨_, rfl, _, _, rfl, rfl, _, rfl, ?_⟩
    refine ite2 (fun h1 => ?_) (fun h1 => ?_)
    · have h2 : 0 < (n : Int) := of_decide_eq_true h1
      obtain ⟨e, rfl⟩ : ∃ e, n = e + 1 := ⟨n - 1, by omega⟩
      obtain ⟨g1, g2⟩ := get_int (r := r) (e := e) (by omega)
      refine ⟨_, rfl, _, rfl, _, _, rfl, rfl, ixS hS (at_of (by omega) g1) ⟨rfl, _, rfl, ?_⟩⟩
      refine ite2 (fun h3 => ?_) (fun h3 => ?_)
      · have h4 : r.getD e 0 = 0 := V.int.inj (of_decide_eq_true h3)
        refine ⟨fun σ' H'' => ∃ n', n' < e + 1 ∧ W n' σ' H'', fun σ' H' h => h, ?_⟩
        refine ⟨_, rfl, _, _, rfl, rfl, e, Nat.lt_succ_self e, rfl, by omega, ?_, ?_⟩
        · show [some (V.ref a), some (V.int (((e + 1 : Nat) : Int) - 1))] = _
          rw [show ((e + 1 : Nat) : Int) - 1 = (e : Int) by omega]
        · rw [← hc, M.cutN_zero r e (by rw [g2, h4])]
      · refine out ?_
        rw [← hc]
        refine M.cutN_stop r e fun z => h3 (decide_eq_true ?_)
        rw [g2] at z
        rw [Option.some.inj z]
    · obtain rfl : n = 0 := by
        have : ¬ (0 < (n : Int)) := fun z => h1 (decide_eq_true z)
        omega
      exact out hc.symm
abbrev s_lrowof : Stmt := top 47
abbrev N_lrowof : List Str := ["_law_amounts", "_law_rest", "_law_found", "_law_k"]
theorem sc_lrowof : FnScope N_lrowof ["_law_amounts"] (defScope s_lrowof) := ⟨rfl, rfl, rfl, by decide +kernel, rfl, by decide +kernel, by decide +kernel⟩

theorem ok_lrowof (F : Fun K "_law_row_of" "_law_row_of" s_lrowof f fd) (T : Blt mg) (G_cut : Has P w K mg base 1 "_law_cut" ["_law_row_here"] (spCut K)) : FnOk P w K mg base CX0 2 f fd ["_law_amounts"] (spRowOf K) := by
  refine F.ok sc_lrowof (fun vs H Q E h => ?_) (fun cdv A outer s H vs Q E hr h => ?_)
  · obtain ⟨a, r, rfl, _⟩ := h
    rfl
  · obtain ⟨a, r, rfl, hS, hl, q⟩ := h
    refine ⟨_, (pss_cons (ps_asg (pe_tup (pa_cons (pe_callTy (show CallR _ _ (rListQ K) from c_list) (by rfl) T.list_ (by decide +kernel) (pa_cons (pv 0) pa_nil)) (pa_cons (pe_lst pa_nil) pa_nil))) (pg_tup rfl (pgs_cons (pg_name (i := 1) sc_lrowof.nd rfl (Or.inr rfl)) (pgs_cons (pg_name (i := 2) sc_lrowof.nd rfl (Or.inl rfl)) pgs_nil))))
    (pss_cons (ps_while PassesOwn.never (pt_cmpR (show OpR _ _ (rNeD K) from op_neD hr.units) (pv 1) (pe_lst pa_nil) (nomark _))
      (pss_cons (ps_expr (pe_bm PySem.F.plainAttrs_list PySem.F.slot_list_append PySem.F.type_list_append mt_append (pv 2) (pa_cons (pe_ix (show IxR _ (rIxL K) from ix_list) (pv 1) pe_int (fun _ _ => rfl)) pa_nil)))
      (pss_one (ps_set (i := 1) sc_lrowof.nd rfl (Or.inr rfl) (pe_lc (own := [("_law_k", 3)]) (g := gName 3) (tt := tYes) (by rfl) sc_lrowof.nd (pi_range1 (by rfl) T.range_ (pa_cons (pe_op op_sub (pe_callB (show CallR _ _ (rLenQ K) from c_len) (by rfl) T.len_ (by decide +kernel) (pa_cons (pv 1) pa_nil)) pe_int) pa_nil)) (blkOk_by (own := [("_law_k", 3)]) (N := N_lrowof) (sc := defScope s_lrowof) (by decide +kernel)) (fun _ _ _ _ _ => (pg_name (i := 3) sc_lrowof.nd rfl (by first | exact Or.inl rfl | exact Or.inr rfl))) (fun _ _ _ _ _ => pts_nil) (fun _ _ _ _ _ => (pe_op op_sub (pe_ix (show IxR _ (rIxL K) from ix_list) (pv 1) (pe_op op_add (pv 3) pe_int) (fun _ _ => rfl)) (pe_ix (show IxR _ (rIxL K) from ix_list) (pv 1) (pv 3) (fun _ _ => rfl)))))))))
    (pss_one (ps_ret (pe_has G_cut (hr.mono (by decide)) (pa_cons (pv 2) pa_nil)))))), ?_⟩
    refine ⟨_, rfl, a, _, rfl, hS, fun l hll => ⟨(by show 0 ≤ sizeLine; decide), fun d hd => ⟨(by show 2 ≤ sizeLine; decide), fun t ht => ?_⟩⟩⟩
    refine ⟨t, _, rfl, SqT.of upd_same, rfl, _, _, rfl, _, _, rfl, rfl, ?_⟩
    have nld : l ≠ d := ne_of_none upd_same hd
    have ntd : d ≠ t := ne_of_none upd_same ht
    have nlt : l ≠ t := ne_of_none (by rw [upd_ne nld]; exact upd_same) ht
    have hd0 : H d = none := (same_new (Same.refl H) _ hll).free hd
    let W : Nat → L2.St → Hp → Prop := fun n σ H' => ∃ (l' : Addr) (cur fnd : List Int), σ = [some (.ref a), some (.ref l'), some (.ref d), none] ∧ n = cur.length ∧ H' l' = some (.lst (cur.map V.int)) ∧ H' d = some (.lst (fnd.map V.int)) ∧ l' ≠ d ∧
      fnd ++ M.thr cur = M.thr r ∧ Same H H' ∧ cur.length + fnd.length ≤ 1000
    refine ⟨W, ⟨_, l, r, [], rfl, rfl, by rw [upd_ne nlt, upd_ne nld, upd_same], by rw [upd_ne ntd, upd_same]; rfl, nld, rfl, same_new (same_new (same_new (Same.refl H) _ hll) _ hd) _ ht, by simpa using hl⟩, ?_⟩
    rintro n σ H' ⟨l', cur, fnd, rfl, rfl, h1, h2, ne, hthr, sm, hlen⟩
    refine ⟨_, rfl, (by show 0 ≤ sizeLine; decide), fun e he => ?_⟩
    have sme : Same H' (upd H' e (.lst [])) := same_new (Same.refl _) _ he
    refine ⟨.list (cur.map PyData.int), .list (([] : List Int).map PyData.int), dp_lst (sme.seq (SqL.of h1)), dp_lst (SqL.of upd_same), shaped_lst _, shaped_lst _, _, rfl, ?_⟩
    rw [eqv_lst]
    have h1e := sme _ _ h1
    have h2e := sme _ _ h2
    have smE := sm.trans sme
    generalize upd H' e (.lst []) = H1 at h1e h2e smE
    cases cur with
    | nil =>
      refine iteF ?_
      refine ⟨_, rfl, d, fnd, rfl, .inl (SqL.of h2e), by simpa using hlen, fun t H2 s2 hres => ?_⟩
      rw [M.thr_nil, List.append_nil] at hthr
      rw [hthr] at hres
      exact q t H2 (smE.trans s2) hres
    | cons x xs =>
      refine iteT ?_
      refine ⟨fun σ' H'' => ∃ n', n' < (x :: xs).length ∧ W n' σ' H'', fun σ' H' h => h, ?_⟩
      refine ⟨_, rfl, .inl ⟨rfl, _, .inl (.inl h2e)⟩, _, rfl, l', _, 0, .int x, rfl, rfl, SqL.of h1e, at_of (j := 0) rfl rfl, d, _, _, rfl, rfl, h2e, ?_, ?_⟩
      · rw [List.length_map]
        exact small1000 (by omega)
      have h3 : (upd H1 d (.lst (fnd.map V.int ++ [.int x]))) l' = some (.lst ((x :: xs).map V.int)) := by rw [upd_ne ne]; exact h1e
      have h4 : (upd H1 d (.lst (fnd.map V.int ++ [.int x]))) d = some (.lst ((fnd ++ [x]).map V.int)) := by rw [upd_same, List.map_append]; rfl
      have sm4 : Same H (upd H1 d (.lst (fnd.map V.int ++ [.int x]))) := same_but_new smE hd0
      generalize upd H1 d (.lst (fnd.map V.int ++ [.int x])) = H2 at h3 h4 sm4 ⊢
      refine ⟨_, rfl, l', _, rfl, .inl (SqL.of h3), _, _, rfl, rfl, (xs.length : Int), ?_, by omega, ?_, fun D hD => ?_⟩
      · rw [List.length_map, List.length_cons]
        exact congrArg (fun z => [V.int z]) (show ((xs.length + 1 : Nat) : Int) - 1 = (xs.length : Int) by omega)
      · simp only [List.length_cons] at hlen
        omega
      rw [show (xs.length : Int).toNat = xs.length by omega]
      refine ZK.lc_growR xs.length (small1000 (by simp only [List.length_cons] at hlen; omega)) (fun _ H' => Same H2 H') (fun i y => y = .int ((x :: xs).getD (i + 1) 0 - (x :: xs).getD i 0)) (same_new (Same.refl _) _ hD) ?_ ?_
      · intro i H3 acc hi s3 hacc hal hR Qn hq
        have g0 := (get_int (r := x :: xs) (e := i) (by rw [List.length_cons]; omega)).1
        have g1 := (get_int (r := x :: xs) (e := i + 1) (by rw [List.length_cons]; omega)).1
        refine ⟨rfl, _, rfl, _, rfl, _, _, rfl, rfl, l', _, _, _, rfl, rfl, SqL.of (s3 _ _ h3), at_of (by omega) g1, _, rfl, _, rfl, l', _, _, _, rfl, rfl, SqL.of (s3 _ _ h3), at_of (by omega) g0, _, _, rfl, rfl, ?_⟩
        exact hq _ _ rfl hacc (same_but_new s3 hD)
      · intro H3 acc s3 hacc hal hR
        have e := ZK.eq_map hal hR
        have hdiff := M.diffs_eq (x :: xs)
        rw [show (x :: xs).length - 1 = xs.length by simp] at hdiff
        refine ⟨xs.length, by simp, D, M.diffs (x :: xs), fnd ++ [x], rfl, by rw [M.diffs_len]; simp, ?_, s3 _ _ h4, (ne_of_none h4 hD).symm, ?_, sm4.trans s3, ?_⟩
        · rw [hacc, e, hdiff, List.map_map]
          rfl
        · rw [← hthr, M.thr_cons, List.append_assoc]
          rfl
        · rw [M.diffs_len, List.length_append]
          simp only [List.length_cons, List.length_nil] at hlen ⊢
          omega
end
end EN

namespace EN
open PySem L2 PyProof.Rows
section
variable {P : Program} {w : World} {K : PySem.W.Frag} {mg : Str → Option Value} {base : Heap} {f : Addr} {fd : FuncData}
abbrev s_row_sum : Stmt := top 15
abbrev N_row_sum : List Str := ["row", "other", "k"]
theorem sc_row_sum : FnScope N_row_sum ["row", "other"] (defScope s_row_sum) := ⟨rfl, rfl, rfl, by decide +kernel, rfl, by decide +kernel, by decide +kernel⟩

theorem ok_row_sum1 (F : Fun K "row_sum" "row_sum" s_row_sum f fd) (T : Blt mg) : FnOk P w K mg base CX0 1 f fd ["row", "other"] (spRowSum1 K) := by
  refine F.ok sc_row_sum (fun vs H Q E h => ?_) (fun cdv A outer s H vs Q E hr h => ?_)
  · obtain ⟨a, a', r, s, rfl, _⟩ := h
    rfl
  · obtain ⟨a, a', r, s', rfl, hS, hS', hls, hl, k⟩ := h
    refine ⟨_, (pss_cons (ps_if (pt_cmpR op_lt (pe_callB (show CallR _ _ (rLenQ K) from c_len) (by rfl) T.len_ (by decide +kernel) (pa_cons (pv 0) pa_nil)) (pe_callB (show CallR _ _ (rLenQ K) from c_len) (by rfl) T.len_ (by decide +kernel) (pa_cons (pv 1) pa_nil)) (nomark _))
      (pss_one ps_never)
      pss_nil)
    (pss_one (ps_ret (pe_lc (own := [("k", 2)]) (g := gName 2) (tt := tYes) (by rfl) sc_row_sum.nd (pi_range1 (by rfl) T.range_ (pa_cons (pe_callB (show CallR _ _ (rLenQ K) from c_len) (by rfl) T.len_ (by decide +kernel) (pa_cons (pv 0) pa_nil)) pa_nil)) (blkOk_by (own := [("k", 2)]) (N := N_row_sum) (sc := defScope s_row_sum) (by decide +kernel)) (fun _ _ _ _ _ => (pg_name (i := 2) sc_row_sum.nd rfl (by first | exact Or.inl rfl | exact Or.inr rfl))) (fun _ _ _ _ _ => pts_nil) (fun _ _ _ _ _ => (pe_ifExp (pt_cmpR op_lt (pv 2) (pe_callB (show CallR _ _ (rLenQ K) from c_len) (by rfl) T.len_ (by decide +kernel) (pa_cons (pv 1) pa_nil)) (nomark _)) (pe_op op_add (pe_ix (show IxR _ (rIx K) from ix_seq) (pv 0) (pv 2) (fun _ _ => rfl)) (pe_ix (show IxR _ (rIx K) from ix_seq) (pv 1) (pv 2) (fun _ _ => rfl))) (pe_ix (show IxR _ (rIx K) from ix_seq) (pv 0) (pv 2) (fun _ _ => rfl)))))))), ?_⟩
    refine ⟨_, rfl, a, _, rfl, hS, _, rfl, a', _, rfl, hS', _, _, rfl, rfl, _, rfl, ?_⟩
    rw [List.length_map, List.length_map, decide_eq_false (by omega)]
    refine iteF ⟨_, rfl, a, _, rfl, hS, (r.length : Int), by rw [List.length_map], by omega, by omega, fun D hD => ?_⟩
    rw [show (r.length : Int).toNat = r.length by omega]
    refine ZK.lc_growR r.length (small1000 (by omega)) (fun _ H' => Same H H') (fun i y => y = .int (if i < s'.length then r.getD i 0 + s'.getD i 0 else r.getD i 0)) (same_new (Same.refl _) _ hD) ?_ ?_
    · intro i H1 acc hi s1 hacc hal hR Qn hq
      have g0 := (get_int (r := r) (e := i) hi).1
      refine ⟨rfl, _, rfl, _, rfl, a', _, rfl, SeqI.same s1 hS', _, _, rfl, rfl, _, rfl, ?_⟩
      rw [List.length_map]
      by_cases z : i < s'.length
      · have g1 := (get_int (r := s') (e := i) z).1
        rw [decide_eq_true (by omega)]
        refine iteT ⟨_, rfl, _, rfl, ixS (SeqI.same s1 hS) (at_of (by omega) g0) ⟨_, rfl, _, rfl, ixS (SeqI.same s1 hS') (at_of (by omega) g1) ⟨_, _, rfl, rfl, ?_⟩⟩⟩
        exact hq _ _ (by rw [if_pos z]) hacc (same_but_new s1 hD)
      · rw [decide_eq_false (by omega)]
        refine iteF ⟨_, rfl, _, rfl, ixS (SeqI.same s1 hS) (at_of (by omega) g0) ?_⟩
        exact hq _ _ (by rw [if_neg z]) hacc (same_but_new s1 hD)
    · intro H1 acc s1 hacc hal hR
      have e := ZK.eq_map hal hR
      refine k D H1 s1 hD ?_
      rw [hacc, e]
      unfold M.add
      rw [List.map_map]
      rfl
theorem ok_row_sum (F : Fun K "row_sum" "row_sum" s_row_sum f fd) (T : Blt mg) (G_row_sum : Has P w K mg base 1 "row_sum" ["row", "other"] (spRowSum1 K)) : FnOk P w K mg base CX0 2 f fd ["row", "other"] (spRowSum K) := by
  refine F.ok sc_row_sum (fun vs H Q E h => ?_) (fun cdv A outer s H vs Q E hr h => ?_)
  · obtain ⟨a, a', r, s, rfl, _⟩ := h
    rfl
  · obtain ⟨a, a', r, s', rfl, hS, hS', hl, hl', k⟩ := h
    refine ⟨_, (pss_cons (ps_if (pt_cmpR op_lt (pe_callB (show CallR _ _ (rLenQ K) from c_len) (by rfl) T.len_ (by decide +kernel) (pa_cons (pv 0) pa_nil)) (pe_callB (show CallR _ _ (rLenQ K) from c_len) (by rfl) T.len_ (by decide +kernel) (pa_cons (pv 1) pa_nil)) (nomark _))
      (pss_one (ps_ret (pe_has G_row_sum (hr.mono (by decide)) (pa_cons (pv 1) (pa_cons (pv 0) pa_nil)))))
      pss_nil)
    (pss_one (ps_ret (pe_lc (own := [("k", 2)]) (g := gName 2) (tt := tYes) (by rfl) sc_row_sum.nd (pi_range1 (by rfl) T.range_ (pa_cons (pe_callB (show CallR _ _ (rLenQ K) from c_len) (by rfl) T.len_ (by decide +kernel) (pa_cons (pv 0) pa_nil)) pa_nil)) (blkOk_by (own := [("k", 2)]) (N := N_row_sum) (sc := defScope s_row_sum) (by decide +kernel)) (fun _ _ _ _ _ => (pg_name (i := 2) sc_row_sum.nd rfl (by first | exact Or.inl rfl | exact Or.inr rfl))) (fun _ _ _ _ _ => pts_nil) (fun _ _ _ _ _ => (pe_ifExp (pt_cmpR op_lt (pv 2) (pe_callB (show CallR _ _ (rLenQ K) from c_len) (by rfl) T.len_ (by decide +kernel) (pa_cons (pv 1) pa_nil)) (nomark _)) (pe_op op_add (pe_ix (show IxR _ (rIx K) from ix_seq) (pv 0) (pv 2) (fun _ _ => rfl)) (pe_ix (show IxR _ (rIx K) from ix_seq) (pv 1) (pv 2) (fun _ _ => rfl))) (pe_ix (show IxR _ (rIx K) from ix_seq) (pv 0) (pv 2) (fun _ _ => rfl)))))))), ?_⟩
    refine ⟨_, rfl, a, _, rfl, hS, _, rfl, a', _, rfl, hS', _, _, rfl, rfl, _, rfl, ?_⟩
    rw [List.length_map, List.length_map]
    by_cases z : r.length < s'.length
    · rw [decide_eq_true (by omega)]
      refine iteT ⟨_, rfl, _, rfl, a', a, s', r, rfl, hS', hS, by omega, by omega, fun l H' s1 nl hl => k l H' s1 nl ?_⟩
      rw [hl, M.plus, if_pos z]
    rw [decide_eq_false (by omega)]
    refine iteF ⟨_, rfl, a, _, rfl, hS, (r.length : Int), by rw [List.length_map], by omega, by omega, fun D hD => ?_⟩
    rw [show (r.length : Int).toNat = r.length by omega]
    refine ZK.lc_growR r.length (small1000 (by omega)) (fun _ H' => Same H H') (fun i y => y = .int (if i < s'.length then r.getD i 0 + s'.getD i 0 else r.getD i 0)) (same_new (Same.refl _) _ hD) ?_ ?_
    · intro i H1 acc hi s1 hacc hal hR Qn hq
      have g0 := (get_int (r := r) (e := i) hi).1
      refine ⟨rfl, _, rfl, _, rfl, a', _, rfl, SeqI.same s1 hS', _, _, rfl, rfl, _, rfl, ?_⟩
      rw [List.length_map]
      by_cases z : i < s'.length
      · have g1 := (get_int (r := s') (e := i) z).1
        rw [decide_eq_true (by omega)]
        refine iteT ⟨_, rfl, _, rfl, ixS (SeqI.same s1 hS) (at_of (by omega) g0) ⟨_, rfl, _, rfl, ixS (SeqI.same s1 hS') (at_of (by omega) g1) ⟨_, _, rfl, rfl, ?_⟩⟩⟩
        exact hq _ _ (by rw [if_pos z]) hacc (same_but_new s1 hD)
      · rw [decide_eq_false (by omega)]
        refine iteF ⟨_, rfl, _, rfl, ixS (SeqI.same s1 hS) (at_of (by omega) g0) ?_⟩
        exact hq _ _ (by rw [if_neg z]) hacc (same_but_new s1 hD)
    · intro H1 acc s1 hacc hal hR
      have e := ZK.eq_map hal hR
      refine k D H1 s1 hD ?_
      rw [hacc, e, M.plus, if_neg z]
      unfold M.add
      rw [List.map_map]
      rfl
abbrev s_row_times : Stmt := top 16
abbrev N_row_times : List Str := ["row", "factor", "count"]
theorem sc_row_times : FnScope N_row_times ["row", "factor"] (defScope s_row_times) := ⟨rfl, rfl, rfl, by decide +kernel, rfl, by decide +kernel, by decide +kernel⟩

theorem range_ints (r : List Int) (g : Int → Int) : (List.range r.length).map (fun i => V.int (g (r.getD i 0))) = (r.map g).map V.int := by
  refine List.ext_getElem? fun i => ?_
  by_cases h : i < r.length
  · rw [List.getElem?_map, List.getElem?_range h, List.getElem?_map, List.getElem?_map, List.getElem?_eq_getElem h]
    show some (V.int (g (r.getD i 0))) = some (V.int (g r[i]))
    rw [List.getD_eq_getElem?_getD, List.getElem?_eq_getElem h]
    rfl
  · rw [List.getElem?_eq_none (by simp; omega), List.getElem?_eq_none (by simp; omega)]
theorem ok_row_times (F : Fun K "row_times" "row_times" s_row_times f fd) (T : Blt mg) : FnOk P w K mg base CX0 1 f fd ["row", "factor"] (spRowTimes K) := by
  refine F.ok sc_row_times (fun vs H Q E h => ?_) (fun cdv A outer s H vs Q E hr h => ?_)
  · obtain ⟨a, r, k, c, d, rfl, _⟩ := h
    rfl
  · obtain ⟨a, r, k, c, d, rfl, hS, hl, hx, hk, hcd, q⟩ := h
    obtain ⟨ka, hS⟩ := ZK.kindOf hS
    refine ⟨_, (pss_one (ps_ret (pe_lc (own := [("count", 2)]) (g := gName 2) (tt := tYes) (by rfl) sc_row_times.nd (ZK.pi_seqK (pv 0)) (blkOk_by (own := [("count", 2)]) (N := N_row_times) (sc := defScope s_row_times) (by decide +kernel)) (fun _ _ _ _ _ => (pg_name (i := 2) sc_row_times.nd rfl (by first | exact Or.inl rfl | exact Or.inr rfl))) (fun _ _ _ _ _ => pts_nil) (fun _ _ _ _ _ => (pe_op op_mulW (pv 2) (pv 1)))))), ?_⟩
    refine ⟨_, rfl, a, ka, _, rfl, hS, fun D hD => ?_⟩
    refine ZK.lc_growS (K := K) (a := a) (k := ka) (xs := r.map V.int) (small1000 (by rw [List.length_map]; omega)) (fun _ H' => Same H H') (fun i y => y = .int (r.getD i 0 * k)) (same_new (Same.refl _) _ hD) (fun i H' s' => hS.same s') ?_ ?_
    · intro i x H1 acc hx1 s1 hacc hal hR Qn hq
      obtain ⟨hi, rfl⟩ := int_at hx1
      exact ⟨rfl, _, rfl, _, rfl, _, _, rfl, rfl, (hx.get i).mulOk hk (by omega), hq _ _ rfl hacc (same_but_new s1 hD)⟩
    · intro H1 acc s1 hacc hal hR
      have e := ZK.eq_map hal hR
      refine q D H1 s1 hD ?_
      rw [hacc, e, List.length_map, range_ints r fun a => a * k]
      rfl
abbrev s_row_less : Stmt := top 34
abbrev N_row_less : List Str := ["row", "other"]
theorem sc_row_less : FnScope N_row_less ["row", "other"] (defScope s_row_less) := ⟨rfl, rfl, rfl, by decide +kernel, rfl, by decide +kernel, by decide +kernel⟩

theorem ok_row_less (F : Fun K "row_less" "row_less" s_row_less f fd) (T : Blt mg) (G_row_sum : Has P w K mg base 2 "row_sum" ["row", "other"] (spRowSum K)) (G_row_times : Has P w K mg base 1 "row_times" ["row", "factor"] (spRowTimes K)) : FnOk P w K mg base CX0 3 f fd ["row", "other"] (spRowLess K) := by
  refine F.ok sc_row_less (fun vs H Q E h => ?_) (fun cdv A outer s H vs Q E hr h => ?_)
  · obtain ⟨a, a', r, s, c, rfl, _⟩ := h
    rfl
  · obtain ⟨a, a', r, s', c, rfl, hS, hS', hl, hl', hx, hc, k⟩ := h
    refine ⟨_, (pss_one (ps_ret (pe_has G_row_sum (hr.mono (by decide)) (pa_cons (pv 0) (pa_cons (pe_has G_row_times (hr.mono (by decide)) (pa_cons (pv 1) (pa_cons (pe_un un_neg pe_int) pa_nil))) pa_nil))))), ?_⟩
    refine ⟨_, rfl, _, rfl, _, rfl, a', s', -1, c, 1, rfl, hS', hl', hx, (by unfold Sz; decide), by omega, fun l H1 s1 nl h1 => ?_⟩
    refine ⟨a, l, r, M.times s' (-1), rfl, SeqI.same s1 hS, .inl (SqL.of h1), hl, by rw [M.times_len]; exact hl', fun l2 H2 s2 nl2 h2 => k l2 H2 (s1.trans s2) (s1.free nl2) h2⟩
abbrev s_row_product : Stmt := top 18
abbrev N_row_product : List Str := ["row", "other", "many", "n"]
theorem sc_row_product : FnScope N_row_product ["row", "other"] (defScope s_row_product) := ⟨rfl, rfl, rfl, by decide +kernel, rfl, by decide +kernel, by decide +kernel⟩

theorem truS {H : Hp} {a : Addr} {r : List Int} (h : SeqI K H a r) : TruV K (.ref a) H (!r.isEmpty) := by
  have e : (!(r.map V.int).isEmpty) = !r.isEmpty := by cases r <;> rfl
  rw [← e]
  exact h.elim (fun h => .inl ⟨_, h, rfl⟩) fun h => .inr (.inl ⟨_, h, rfl⟩)
theorem ok_row_product (F : Fun K "row_product" "row_product" s_row_product f fd) (T : Blt mg) (G_row_value : Has P w K mg base 2 "row_value" ["row", "n"] (spRowV K)) (G_row_through : Has P w K mg base 1 "row_through" ["values"] (spRowThr K)) : FnOk P w K mg base CX0 3 f fd ["row", "other"] (spRowProd K) := by
  refine F.ok sc_row_product (fun vs H Q E h => ?_) (fun cdv A outer s H vs Q E hr h => ?_)
  · obtain ⟨a, a', r, s, c, rfl, _⟩ := h
    rfl
  · obtain ⟨a, a', r, s', c, rfl, hS, hS', hl, hl', hx, hx', hc, k⟩ := h
    have hS0 := hS
    have hS0' := hS'
    obtain ⟨ka, hS⟩ := ZK.kindOf hS
    obtain ⟨kb, hS'⟩ := ZK.kindOf hS'
    refine ⟨_, (pss_cons (ps_if (PW.pt (pw_or (pt_not (pt_truth (pv 0) (by intro _; rfl))) (pw_or1 (pt_not (pt_truth (pv 1) (by intro _; rfl))))))
      (pss_one (ps_ret (pe_lst pa_nil)))
      pss_nil)
    (pss_cons (ps_set (i := 2) sc_row_product.nd rfl (Or.inl rfl) (pe_op op_sub (pe_op op_add (pe_callB (show CallR _ _ (rLenQ K) from c_len) (by rfl) T.len_ (by decide +kernel) (pa_cons (pv 0) pa_nil)) (pe_callB (show CallR _ _ (rLenQ K) from c_len) (by rfl) T.len_ (by decide +kernel) (pa_cons (pv 1) pa_nil))) pe_int))
    (pss_one (ps_ret (pe_has G_row_through (hr.mono (by decide)) (pa_cons (pe_lc (own := [("n", 3)]) (g := gName 3) (tt := tYes) (by rfl) sc_row_product.nd (pi_range1 (by rfl) T.range_ (pa_cons (pv 2) pa_nil)) (blkOk_by (own := [("n", 3)]) (N := N_row_product) (sc := defScope s_row_product) (by decide +kernel)) (fun _ _ _ _ _ => (pg_name (i := 3) sc_row_product.nd rfl (by first | exact Or.inl rfl | exact Or.inr rfl))) (fun _ _ _ _ _ => pts_nil) (fun _ _ _ _ _ => (pe_op op_mulW (pe_has G_row_value (hr.mono (by decide)) (pa_cons (pv 0) (pa_cons (pv 3) pa_nil))) (pe_has G_row_value (hr.mono (by decide)) (pa_cons (pv 1) (pa_cons (pv 3) pa_nil)))))) pa_nil)))))), ?_⟩
    refine ⟨_, rfl, !r.isEmpty, truS hS0, ?_⟩
    cases r with
    | nil =>
      refine iteT ⟨(by show 0 ≤ sizeLine; decide), fun l hl => k l _ (same_new (Same.refl H) _ hl) hl ?_⟩
      rw [upd_same, M.prod, if_pos (.inl rfl)]
      rfl
    | cons x r =>
      refine iteF ⟨_, rfl, !s'.isEmpty, truS hS0', ?_⟩
      cases s' with
      | nil =>
        refine iteT ⟨(by show 0 ≤ sizeLine; decide), fun l hl => k l _ (same_new (Same.refl H) _ hl) hl ?_⟩
        rw [upd_same, M.prod, if_pos (.inr rfl)]
        rfl
      | cons y s' =>
        refine iteF ?_
        generalize e1 : x :: r = r1 at *
        generalize e2 : y :: s' = r2 at *
        have n1 : 0 < r1.length := by rw [← e1]; exact Nat.succ_pos _
        have n2 : 0 < r2.length := by rw [← e2]; exact Nat.succ_pos _
        have ne : ¬ (r1 = [] ∨ r2 = []) := by rw [← e1, ← e2]; simp
        clear e1 e2
        refine ⟨_, rfl, a, _, rfl, hS0, _, rfl, a', _, rfl, hS0', _, _, rfl, rfl, _, _, rfl, rfl, ?_⟩
        rw [List.length_map, List.length_map]
        obtain ⟨m, hm⟩ : ∃ m : Nat, m = r1.length + r2.length - 1 := ⟨_, rfl⟩
        refine ⟨_, rfl, (m : Int), congrArg (fun z => [V.int z]) (by omega), by omega, by omega, fun D hD => ?_⟩
        rw [show ((m : Int)).toNat = m by omega]
        have hv : ∀ i : Nat, i < m → Sz 6 ((i : Int)) := fun i hi => by unfold Sz; omega
        refine ZK.lc_growR m (small1000 (by omega)) (fun _ H' => Same H H') (fun i y => y = .int (M.val r1 (i : Int) * M.val r2 (i : Int))) (same_new (Same.refl _) _ hD) ?_ ?_
        · intro i H1 acc hi s1 hacc hal hR Qn hq
          rw [Int.zero_add]
          have z1 := valb (c := c) (by decide) (hv i hi) hl hx
          have z2 := valb (c := c) (by decide) (hv i hi) hl' hx'
          refine ⟨rfl, _, rfl, _, rfl, a, r1, (i : Int), 6, c, rfl, SeqI.same s1 hS0, hl, hx, hc, by decide, by decide, hv i hi, fun H2 s2 => ?_⟩
          refine ⟨_, rfl, _, rfl, a', r2, (i : Int), 6, c, rfl, SeqI.same s2 (SeqI.same s1 hS0'), hl', hx', hc, by decide, by decide, hv i hi, fun H3 s3 => ?_⟩
          exact ⟨_, _, rfl, rfl, z1.mulOk z2 (by omega), hq _ _ rfl (s3 _ _ (s2 _ _ hacc)) (same_but_new ((s1.trans s2).trans s3) hD)⟩
        · intro H1 acc s1 hacc hal hR
          have e := ZK.eq_map hal hR
          refine ⟨D, M.vals (fun n => M.val r1 n * M.val r2 n) m, rfl, .inl (SqL.of ?_), by rw [M.vals_len]; omega, fun l H2 s2 nl h2 => k l H2 (s1.trans s2) (s1.free nl) ?_⟩
          · rw [hacc, e]
            unfold M.vals
            rw [List.map_map]
            rfl
          · rw [h2, M.prod, if_neg ne, hm]
end
end EN

/-! calls through a class: its staticmethods, the class held by a local name, math.factorial -/
namespace EN
open PySem L2 PyProof.Rows
/-- C.m is a staticmethod: its record at p, its def at g -/
structure SMet (K : PySem.W.Frag) (C : Addr) (mc : Value) (m : Str) (p g : Addr) : Prop where
  at_ : PySem.W.findCls K (.ref C) mc m = some (.get (.builtin "staticmethod.__get__") (.ref p) .none (.ref C))
  rc : ∃ rest, PySem.W.recIn K p "staticmethod" = some (.ref g :: rest)
  kp : PySem.W.keepIn K (.ref g) = true
def tSMeth (C : Addr) (sp : Sp) (dvs : List V) (E : XK) (ta : TE) (t : TA) : TE := fun σ H Q => ta σ H fun x H1 => x = .ref C ∧ t σ H1 fun vs H2 => sp (vs ++ dvs) H2 Q E
section
variable {X : Cx} {CX : CXT} {k : Nat} {C p g f : Addr} {mc : Value} {sp : Sp} {E : XK} {o e : Expr} {es : List Expr} {m x : Str} {pos apos np : Pos} {ta : TE} {t : TA} {pl : Sem Bool} {fd : FuncData} {ps : List Str} {dvs : List V} {ds : List Value}
theorem pe_smeth (he : PE X o ta) (r : ClX.CRead X.K C mc) (c : SMet X.K C mc m p g) (F : FnOk X.prog X.w X.K X.mg X.base CX k g fd ps sp) (hr : Room k X.A) (hb : Binds X.K fd ps ds) (hd : Vals dvs ds) (hx : Passes CX X E) (ha : PA X (e :: es) t)
    (hst : starEach (e :: es) X.env = (false, eval e X.env) :: starEach es X.env := by rfl) (hpl : (backTo pos (starEach es X.env)).any (·.1) = false := by rfl)
    (ht : eval (.Call (.Attribute o m apos) (e :: es) [] pos) X.env = (do
      let ov ← eval o X.env
      standAt apos.atName
      let (f, first) ← holding [ov] (getMethod ov m pl)
      callWith pos f first (backTo pos (starEach (e :: es) X.env)) (backToKw pos (keywordEach [] X.env))) := by rfl) :
    PE X (.Call (.Attribute o m apos) (e :: es) [] pos) (tSMeth C sp dvs E ta t) := by
  refine ⟨fun pins s σ H Q I h => PySem.W.methodCall_KW (pl := pl) (thn (he.run pins s σ H _ I h) fun u s1 ⟨y, H1, I1, ry, ey, q⟩ => ?_) ht⟩
  subst ey
  obtain rfl : u = Value.ref C := ry
  obtain ⟨rest, hp⟩ := c.rc
  refine PySem.W.method_cls I1.kIn r.ga (PySem.W.cls_bind I1.kIn r.rd c.at_ (wpAny_call (PySem.W.sm_get (s := { s1 with toks := s1.toks + 1 }) I1.kIn hp (PySem.W.handed_on rfl ?_))))
  have I2 := I1.tok (s1.toks + 1)
  refine PySem.W.callWith_K (h₀ := X.base) I2.ok.mod.kin c.kp (thn (ha.run pos pins _ σ H1 _ I2 q) fun us s2 ⟨vs, H2, I3, rv, q2⟩ => ⟨I3.kIn, ?_⟩) hst hpl
  exact run_fn F hr hb hd hx I3 rv q2
/-- x(e, ..), the local name x holds the class at C -/
def tMakeL (i : Nat) (C : Addr) (sp : Sp) (dvs : List V) (E : XK) (t : TA) : TE := fun σ H Q => σ[i]? = some (some (.ref C)) ∧ tMake C sp dvs E t σ H Q
theorem pe_makeL {i : Nat} (M : Mk X.K C f) (F : FnOk X.prog X.w X.K X.mg X.base CX k f fd ps sp) (hr : Room (k + 1) X.A) (hN : X.N[i]? = some x) (hv : Vis X.env.scope x) (hb : Binds X.K fd ps ds) (hd : Vals dvs ds) (hx : Passes CX X E) (ha : PA X (e :: es) t)
    (hdb : (x == ("__debug__" : Str)) = false := by decide) (hcd : (x == ("__classdict__" : Str)) = false := by decide)
    (he : starEach (e :: es) X.env = (false, eval e X.env) :: starEach es X.env := by rfl) (hpl : (backTo pos (starEach es X.env)).any (·.1) = false := by rfl) : PE X (.Call (.Name x np) (e :: es) [] pos) (tMakeL i C sp dvs E t) := by
  refine ⟨fun pins s σ H Q I ⟨hs, h⟩ => wpAny_Call_Name_kw (thn ((pe_var (pos := np) hN hv hdb hcd).run pins s σ H (fun v H1 => v = .ref C ∧ H1 = H) I ⟨.ref C, hs, rfl, rfl⟩) fun u s1 ⟨v, H1, I1, r1, q1⟩ => ?_)⟩
  obtain ⟨rfl, rfl⟩ := q1
  cases r1
  refine PySem.W.callWith_K (h₀ := X.base) I.ok.mod.kin M.kp (thn (ha.run pos pins s1 σ _ _ I1 h) fun us s2 ⟨vs, H2, I2, rv, q⟩ => ⟨I2.kIn, ?_⟩) he hpl
  exact run_make M F hr hb hd hx I2 rv q
def rFactorial : List V → Hp → VK → Prop := fun vs H Q => ∃ n : Nat, vs = [.int (n : Int)] ∧ n ≤ 1000 ∧ Q (.int (M.fac n)) H
theorem facN : ∀ n : Nat, ((Builtin.Math.factorialNat n : Nat) : Int) = M.fac n
  | 0 => by decide +kernel
  | n + 1 => by
    rw [PySem.W.mc_fac_succ, Int.natCast_mul, facN n]
    rfl
theorem cr_factorial : CallR X (.builtin "math.factorial") rFactorial := by
  intro pins s σ H vs us Q I r h
  obtain ⟨n, rfl, hn, q⟩ := h
  obtain ⟨u, rfl, ru⟩ := vals1 r
  obtain ⟨tk, rfl⟩ := ru
  refine PySem.W.mc_factorial (by omega) (by omega) fun _ => ⟨.int _, H, I.tok _, ⟨_, rfl⟩, ?_⟩
  rw [show ((n : Int)).toNat = n by omega, facN]
  exact q
end
end EN

/-! operators that an own class defines, for instances with a dict -/
namespace EO
open PySem PySem.Spec PyProof.Rows L2
section
variable {prog : Program} {w : World} {A : Around} {E : Value → Shared → Prop} {s : Shared} {K : PySem.W.Frag} {x C f : Addr} {ox : Obj} {od : Option Obj} {b : Value}
/-- what comes back is a value -/
def Got (Q : Value → Shared → Prop) : Value → Shared → Prop := fun v s' => v ≠ .notImplemented ∧ Q v s'
theorem try_own {name : Str} {Q : Option Value → Shared → Prop} (kin : K.In s.heap) (inst : PySem.W.InstAt s.heap x ox C od) (at_ : PySem.W.findIn K (.ref C) name = some (some (.ref f))) (fn : PySem.W.isFn K (.ref f) = true)
    (run : wpAny (model prog w) A (call (.ref f) [.ref x, b]) (Got fun v s' => Q (some v) s') E s) : wpAny (model prog w) A (tryMethod (.ref x) name b) Q E s := by
  simp only [tryMethod]
  refine wpAny_bind (PySem.W.special_fn kin inst at_ (beq_iff_eq.mp fn) (wpAny_mono run (fun v s1 g => ?_) fun _ _ z => z))
  obtain ⟨ne, q⟩ := g
  cases v
  case notImplemented => exact absurd rfl ne
  all_goals exact wpAny_pure q
theorem cmp_own {name : Str} {Q : Option Value → Shared → Prop} (kin : K.In s.heap) (inst : PySem.W.InstAt s.heap x ox C od) (at_ : PySem.W.findIn K (.ref C) name = some (some (.ref f))) (fn : PySem.W.isFn K (.ref f) = true)
    (run : wpAny (model prog w) A (call (.ref f) [.ref x, b]) (Got fun v s' => Q (some v) s') E s) : wpAny (model prog w) A (tryCompare (.ref x) name b) Q E s := by
  simp only [tryCompare]
  refine wpAny_bind (PySem.W.ifBound_K kin inst at_ fn (wpAny_mono run (fun v s1 g => ?_) fun _ _ z => z))
  obtain ⟨ne, q⟩ := g
  cases v
  case notImplemented => exact absurd rfl ne
  all_goals exact wpAny_pure q
theorem un_own {op : UnaryOp} {name : Str} {Q : Value → Shared → Prop} (hop : op ≠ .Not) (hn : name = (match op with | .Invert => "__invert__" | .UAdd => "__pos__" | .USub => "__neg__" | .Not => ("" : Str)))
    (kin : K.In s.heap) (inst : PySem.W.InstAt s.heap x ox C od) (at_ : PySem.W.findIn K (.ref C) name = some (some (.ref f))) (fn : PySem.W.isFn K (.ref f) = true)
    (run : wpAny (model prog w) A (call (.ref f) [.ref x]) Q E s) : wpAny (model prog w) A (unaryOp op (.ref x)) Q E s := by
  subst hn
  cases op
  case Not => exact absurd rfl hop
  all_goals
    unfold unaryOp
    exact wpAny_holding (wpAny_bind (PySem.W.special_fn kin inst at_ (beq_iff_eq.mp fn) (wpAny_mono run (fun v s1 z => wpAny_pure z) fun _ _ z => z)))
theorem first_own (sf : PySem.W.selfFirst K C = true) : ∃ cd rest, PySem.W.clsIn K C = some cd ∧ cd.mro = .ref C :: rest := PySem.W.ksp_first sf
/-- a op b, both of the class C -/
theorem bin_same {op : Operator} {Q : Value → Shared → Prop} (kin : K.In s.heap) (inst : PySem.W.InstAt s.heap x ox C od) (tb : PySem.W.Looks (model prog w) s.heap (typeOf b) (.ref C)) (sf : PySem.W.selfFirst K C = true)
    (at_ : PySem.W.findIn K (.ref C) (PySem.dunder op.info.2) = some (some (.ref f))) (fn : PySem.W.isFn K (.ref f) = true) (run : wpAny (model prog w) A (call (.ref f) [.ref x, b]) (Got Q) E s) : wpAny (model prog w) A (binaryOp op (.ref x) b) Q E s := by
  obtain ⟨cd, rest, hcd, hm⟩ := first_own sf
  simp only [binaryOp]
  refine wpAny_holding (wpAny_bind ?_)
  simp only [binaryOp1]
  refine wpAny_bind (inst.type.here (wpAny_bind (tb.here (wpAny_bind ((PySem.W.fills_K kin hcd hm at_).here ?_)))))
  simp only [beq_self_eq_true, if_true, pure_bind, Bool.and_false, Bool.false_eq_true, if_false, Bool.false_and]
  refine wpAny_bind (try_own kin inst at_ fn (wpAny_mono run (fun v s1 g => ⟨g.1, ?_⟩) fun _ _ z => z))
  exact wpAny_pure (wpAny_pure g.2)
end
end EO

namespace EO
open PySem PySem.Spec PyProof.Rows L2
section
variable {prog : Program} {w : World} {A : Around} {E : Value → Shared → Prop} {s : Shared} {K : PySem.W.Frag} {x C f : Addr} {ox : Obj} {od : Option Obj} {b : Value} {T : String}
/-- what the top says of an own class beside the built-in type T, for the operator nm -/
structure Mix (K : PySem.W.Frag) (C : Addr) (T nm : String) : Prop where
  fo : ∃ r, PySem.W.findIn K (.type T) (PySem.dunder nm) = some r
  ro : ∃ r, PySem.W.findIn K (.type T) (dunderR nm) = some r
  cr : ∃ r, PySem.W.findIn K (.ref C) (dunderR nm) = some r ∧ (r = none ∨ ∃ g : Addr, r = some (.ref g))
  sub : PySem.W.subIn K (.type T) (.ref C) = some false
  sf : PySem.W.selfFirst K C = true
/-- a op b, a of the class C, b of a built-in type -/
theorem bin_left {op : Operator} {Q : Value → Shared → Prop} (mx : Mix K C T op.info.2) (kin : K.In s.heap) (inst : PySem.W.InstAt s.heap x ox C od) (tb : typeOf b = pure (.type T))
    (at_ : PySem.W.findIn K (.ref C) (PySem.dunder op.info.2) = some (some (.ref f))) (fn : PySem.W.isFn K (.ref f) = true) (run : wpAny (model prog w) A (call (.ref f) [.ref x, b]) (Got Q) E s) : wpAny (model prog w) A (binaryOp op (.ref x) b) Q E s := by
  obtain ⟨⟨fo, h1⟩, ⟨ro, h2⟩, ⟨rc, h3, h4⟩, h5, sf⟩ := mx
  obtain ⟨cd, rest, hcd, hm⟩ := first_own sf
  have k1 : PySem.W.Looks (model prog w) s.heap (typeOf b) (.type T) := PySem.W.Looks.of_pure tb
  have k2 := PySem.W.ksp_fillsT (M := model prog w) kin h1 h2
  have k3 : PySem.W.Looks (model prog w) s.heap (isSubtype (.type T) (.ref C)) false := PySem.W.looks_subIn kin h5
  have k4 : PySem.W.Looks (model prog w) s.heap (numberSlotInPython (.ref C) op.info.2) true := PySem.W.ksp_inPy kin at_ h3 h4
  have k5 : PySem.W.Looks (model prog w) s.heap (typeLookup (.type T) (dunderR op.info.2)) ro := PySem.W.looks_findIn kin h2
  have ne : (Value.ref C == Value.type T) = false := Bool.eq_false_iff.mpr fun q => nomatch beq_iff_eq.mp q
  have ne' : (Value.type T == Value.ref C) = false := Bool.eq_false_iff.mpr fun q => nomatch beq_iff_eq.mp q
  generalize ((fo.isSome && !isSeqSlot fo) || (ro.isSome && !isSeqSlot ro)) = right at k2
  have fin : wpAny (model prog w) A (tryMethod (.ref x) (PySem.dunder op.info.2) b) (fun r s' => ∃ v, r = some v ∧ Q v s') E s := try_own kin inst at_ fn (wpAny_mono run (fun v s1 g => ⟨g.1, v, rfl, g.2⟩) fun _ _ z => z)
  simp only [binaryOp]
  refine wpAny_holding (wpAny_bind ?_)
  simp only [binaryOp1]
  refine wpAny_bind (inst.type.here (wpAny_bind (k1.here (wpAny_bind ((PySem.W.fills_K kin hcd hm at_).here ?_)))))
  simp only [ne, Bool.false_eq_true, if_false]
  refine wpAny_bind (k2.here ?_)
  cases right with
  | false =>
    simp only [Bool.and_false, Bool.false_eq_true, if_false, pure_bind, Bool.false_and, if_true]
    refine wpAny_bind (wpAny_mono fin (fun r s1 g => ?_) fun _ _ z => z)
    obtain ⟨v, rfl, q⟩ := g
    exact wpAny_pure (wpAny_pure q)
  | true =>
    simp only [Bool.and_self, if_true, Bool.not_false, Bool.false_eq_true, if_false]
    refine wpAny_bind (k3.here ?_)
    simp only [Bool.false_eq_true, if_false, pure_bind, if_true, Bool.and_self, Bool.not_false]
    refine wpAny_bind (k4.here ?_)
    simp only [if_true]
    refine wpAny_bind (wpAny_pure ?_)
    simp only [Bool.not_false, if_true]
    refine wpAny_bind (k5.here ?_)
    refine wpAny_bind (wpAny_mono fin (fun r s1 g => ?_) fun _ _ z => z)
    obtain ⟨v, rfl, q⟩ := g
    exact wpAny_pure (wpAny_pure q)
end
end EO

namespace EO
open PySem PySem.Spec PyProof.Rows L2
section
variable {prog : Program} {w : World} {A : Around} {E : Value → Shared → Prop} {s : Shared} {K : PySem.W.Frag} {x C f f0 : Addr} {ox : Obj} {od : Option Obj} {b : Value} {i : Int} {t : Tok}
/-- an int's own method does not take an own instance -/
def IntNo (prog : Program) (w : World) (B : Builtin) : Prop := ∀ (A : Around) (E : Value → Shared → Prop) (s : Shared) (x C : Addr) (ox : Obj) (od : Option Obj) (i : Int) (t : Tok) (Q : Value → Shared → Prop), PySem.W.InstAt s.heap x ox C od → ox.data = .plain → Q .notImplemented s →
  wpAny (model prog w) A (B ⟨[.int i t, .ref x], []⟩) (fun fin s' => ∃ v, fin = .done (.ret v) ∧ Q v s') E s
theorem no_add : IntNo prog w Builtin.«int.__add__» := by
  intro A E s x C ox od i t Q inst pl q
  obtain ⟨h, gs, d, tk, os⟩ := s
  have at_ : h.get? x = some ox := inst.at_
  obtain ⟨cls, dd, data, sl⟩ := ox
  cases pl
  wp_walk using wpAny_loadPart' at_, wpAny_load at_
  exact ⟨_, rfl, q⟩
theorem no_sub : IntNo prog w Builtin.«int.__sub__» := by
  intro A E s x C ox od i t Q inst pl q
  obtain ⟨h, gs, d, tk, os⟩ := s
  have at_ : h.get? x = some ox := inst.at_
  obtain ⟨cls, dd, data, sl⟩ := ox
  cases pl
  wp_walk using wpAny_loadPart' at_, wpAny_load at_
  exact ⟨_, rfl, q⟩
theorem no_mul : IntNo prog w Builtin.«int.__mul__» := by
  intro A E s x C ox od i t Q inst pl q
  obtain ⟨h, gs, d, tk, os⟩ := s
  have at_ : h.get? x = some ox := inst.at_
  obtain ⟨cls, dd, data, sl⟩ := ox
  cases pl
  wp_walk using wpAny_loadPart' at_, wpAny_load at_
  exact ⟨_, rfl, q⟩
theorem no_le : IntNo prog w Builtin.«int.__le__» := by
  intro A E s x C ox od i t Q inst pl q
  obtain ⟨h, gs, d, tk, os⟩ := s
  have at_ : h.get? x = some ox := inst.at_
  obtain ⟨cls, dd, data, sl⟩ := ox
  cases pl
  wp_walk using wpAny_loadPart' at_, wpAny_load at_
  exact ⟨_, rfl, q⟩
theorem no_lt : IntNo prog w Builtin.«int.__lt__» := by
  intro A E s x C ox od i t Q inst pl q
  obtain ⟨h, gs, d, tk, os⟩ := s
  have at_ : h.get? x = some ox := inst.at_
  obtain ⟨cls, dd, data, sl⟩ := ox
  cases pl
  wp_walk using wpAny_loadPart' at_, wpAny_load at_
  exact ⟨_, rfl, q⟩
theorem no_ge : IntNo prog w Builtin.«int.__ge__» := by
  intro A E s x C ox od i t Q inst pl q
  obtain ⟨h, gs, d, tk, os⟩ := s
  have at_ : h.get? x = some ox := inst.at_
  obtain ⟨cls, dd, data, sl⟩ := ox
  cases pl
  wp_walk using wpAny_loadPart' at_, wpAny_load at_
  exact ⟨_, rfl, q⟩
theorem no_gt : IntNo prog w Builtin.«int.__gt__» := by
  intro A E s x C ox od i t Q inst pl q
  obtain ⟨h, gs, d, tk, os⟩ := s
  have at_ : h.get? x = some ox := inst.at_
  obtain ⟨cls, dd, data, sl⟩ := ox
  cases pl
  wp_walk using wpAny_loadPart' at_, wpAny_load at_
  exact ⟨_, rfl, q⟩
/-- .. as the operator's first try, as a comparison's -/
theorem int_tryno {name : Str} {id : String} {B : Builtin} (slot : Slot "int" name id) (ent : entryFor table id = some B) (no : IntNo prog w B) (args : argsOk id ⟨[.int i t, .ref x], []⟩) (inst : PySem.W.InstAt s.heap x ox C od) (pl : ox.data = .plain)
    {Q : Option Value → Shared → Prop} (q : Q none s) : wpAny (model prog w) A (tryMethod (.int i t) name (.ref x)) Q E s :=
  wpAny_tryMethod_declines (typeIs_int s i t) slot (wpAny_call_entry slot (typeIs_int s i t) ent (no _ _ _ x C ox od i t (fun v s' => v = .notImplemented ∧ Q none s') inst pl ⟨rfl, q⟩) args)
theorem int_cmpno {name : Str} {id : String} {B : Builtin} (slot : Slot "int" name id) (ent : entryFor table id = some B) (no : IntNo prog w B) (args : argsOk id ⟨[.int i t, .ref x], []⟩) (inst : PySem.W.InstAt s.heap x ox C od) (pl : ox.data = .plain)
    {Q : Option Value → Shared → Prop} (q : Q none s) : wpAny (model prog w) A (tryCompare (.int i t) name (.ref x)) Q E s :=
  wpAny_tryCompare_declines (typeIs_int s i t) slot (wpAny_call_entry slot (typeIs_int s i t) ent (no _ _ _ x C ox od i t (fun v s' => v = .notImplemented ∧ Q none s') inst pl ⟨rfl, q⟩) args)
/-- a op b, a an int, b of the class C -/
theorem bin_right {op : Operator} {Q : Value → Shared → Prop} (fill : fillsNumberSlot (.type "int") op.info.2 = pure true) (kin : K.In s.heap) (inst : PySem.W.InstAt s.heap x ox C od) (sf : PySem.W.selfFirst K C = true) (sub : PySem.W.subIn K (.ref C) (.type "int") = some false)
    (at0 : PySem.W.findIn K (.ref C) (PySem.dunder op.info.2) = some (some (.ref f0))) (at_ : PySem.W.findIn K (.ref C) (dunderR op.info.2) = some (some (.ref f))) (fn : PySem.W.isFn K (.ref f) = true)
    (no : ∀ Q : Option Value → Shared → Prop, Q none s → wpAny (model prog w) A (tryMethod (.int i t) (PySem.dunder op.info.2) (.ref x)) Q E s)
    (run : wpAny (model prog w) A (call (.ref f) [.ref x, .int i t]) (Got Q) E s) : wpAny (model prog w) A (binaryOp op (.int i t) (.ref x)) Q E s := by
  obtain ⟨cd, rest, hcd, hm⟩ := first_own sf
  have k1 : PySem.W.Looks (model prog w) s.heap (typeOf (.int i t)) (.type "int") := PySem.W.Looks.of_pure rfl
  have k2 : PySem.W.Looks (model prog w) s.heap (fillsNumberSlot (.type "int") op.info.2) true := PySem.W.Looks.of_pure fill
  have k3 : PySem.W.Looks (model prog w) s.heap (isSubtype (.ref C) (.type "int")) false := PySem.W.looks_subIn kin sub
  have ne : (Value.type "int" == Value.ref C) = false := Bool.eq_false_iff.mpr fun q => nomatch beq_iff_eq.mp q
  have nw : numberSlotInPython (.type "int") op.info.2 = pure false := rfl
  have fin : wpAny (model prog w) A (tryMethod (.ref x) (dunderR op.info.2) (.int i t)) (fun r s' => ∃ v, r = some v ∧ Q v s') E s := try_own kin inst at_ fn (wpAny_mono run (fun v s1 g => ⟨g.1, v, rfl, g.2⟩) fun _ _ z => z)
  simp only [binaryOp]
  refine wpAny_holding (wpAny_bind ?_)
  simp only [binaryOp1]
  refine wpAny_bind (k1.here (wpAny_bind (inst.type.here (wpAny_bind (k2.here ?_)))))
  simp only [ne, Bool.false_eq_true, if_false]
  refine wpAny_bind ((PySem.W.fills_K kin hcd hm at0).here ?_)
  simp only [Bool.and_self, if_true]
  refine wpAny_bind (k3.here ?_)
  simp only [Bool.false_eq_true, if_false, pure_bind, Bool.not_false, Bool.and_self, if_true, nw]
  refine wpAny_bind (no _ ?_)
  simp only [Bool.false_eq_true, if_false, pure_bind, Bool.not_false, Bool.and_self, if_true]
  refine wpAny_bind (wpAny_mono fin (fun r s1 g => ?_) fun _ _ z => z)
  obtain ⟨v, rfl, q⟩ := g
  repeat (first | exact wpAny_pure q | refine wpAny_pure ?_ | wp_step)
end
end EO

namespace EO
open PySem PySem.Spec PyProof.Rows L2
section
variable {prog : Program} {w : World} {A : Around} {E : Value → Shared → Prop} {s : Shared} {K : PySem.W.Frag} {x C f f0 : Addr} {ox : Obj} {od : Option Obj} {b tb : Value} {i : Int} {t : Tok}
/-- a op b, a of the class C with a method of its own for op -/
theorem rc_left {op : CmpOp} {Q : Value → Shared → Prop} (hu : A.units < cLine) (kin : K.In s.heap) (inst : PySem.W.InstAt s.heap x ox C od) (ty : PySem.W.Looks (model prog w) s.heap (typeOf b) tb) (nf : PySem.W.notFirst K C tb = true)
    (fin : wpAny (model prog w) A (tryCompare (.ref x) (cmpInfo op).2.1 b) (fun r s' => ∃ v, r = some v ∧ Q v s') E s) : wpAny (model prog w) A (richCompare op (.ref x) b) Q E s := by
  simp only [richCompare, oneThing_ref]
  refine wpAny_holding (wpAny_bind (wpAny_cRoomFor hu ?_))
  refine wpAny_bind (inst.type.here (wpAny_bind (ty.here ?_)))
  have last : wpAny (model prog w) A (tryCompare (.ref x) (cmpInfo op).2.1 b) (fun r s' => ∃ v, r = some v ∧ Q v s') E s := fin
  by_cases same : (Value.ref C != tb) = true
  · have sub : PySem.W.subIn K tb (.ref C) = some false := by
      rcases Bool.or_eq_true_iff.mp nf with e | e
      · rw [beq_iff_eq.mp e] at same
        simp at same
      · exact beq_iff_eq.mp e
    rw [if_pos same]
    refine wpAny_bind ((PySem.W.looks_subIn kin sub).here ?_)
    simp only [Bool.false_eq_true, if_false]
    refine wpAny_bind (wpAny_mono last (fun r s1 g => ?_) fun _ _ z => z)
    obtain ⟨v, rfl, q⟩ := g
    exact wpAny_pure q
  · rw [if_neg same]
    refine wpAny_bind (wpAny_pure ?_)
    simp only [Bool.false_eq_true, if_false]
    refine wpAny_bind (wpAny_mono last (fun r s1 g => ?_) fun _ _ z => z)
    obtain ⟨v, rfl, q⟩ := g
    exact wpAny_pure q
/-- .. b of the class C, an int ahead -/
theorem rc_right {op : CmpOp} {Q : Value → Shared → Prop} (hu : A.units < cLine) (kin : K.In s.heap) (inst : PySem.W.InstAt s.heap x ox C od) (sub : PySem.W.subIn K (.ref C) (.type "int") = some false)
    (no : ∀ Q : Option Value → Shared → Prop, Q none s → wpAny (model prog w) A (tryCompare (.int i t) (cmpInfo op).2.1 (.ref x)) Q E s)
    (fin : wpAny (model prog w) A (tryCompare (.ref x) (cmpInfo op).2.2 (.int i t)) (fun r s' => ∃ v, r = some v ∧ Q v s') E s) : wpAny (model prog w) A (richCompare op (.int i t) (.ref x)) Q E s := by
  have one : oneThing? op (.int i t) (.ref x) = none := by cases op <;> rfl
  simp only [richCompare, one]
  refine wpAny_holding (wpAny_bind (wpAny_cRoomFor hu ?_))
  have k1 : PySem.W.Looks (model prog w) s.heap (typeOf (.int i t)) (.type "int") := PySem.W.Looks.of_pure rfl
  refine wpAny_bind (k1.here (wpAny_bind (inst.type.here ?_)))
  have ne : (Value.type "int" != Value.ref C) = true := by simp
  rw [if_pos ne]
  refine wpAny_bind ((PySem.W.looks_subIn kin sub).here ?_)
  simp only [Bool.false_eq_true, if_false]
  refine wpAny_bind (no _ ?_)
  simp only [Bool.not_false, if_true]
  refine wpAny_bind (wpAny_mono fin (fun r s1 g => ?_) fun _ _ z => z)
  obtain ⟨v, rfl, q⟩ := g
  exact wpAny_pure q
/-- a != b by an own __eq__ -/
theorem ne_try {Q : Option Value → Shared → Prop} (hu : A.units + 1 < cLine) (kin : K.In s.heap) (inst : PySem.W.InstAt s.heap x ox C od) (at0 : PySem.W.findIn K (.ref C) "__ne__" = some (some (.builtin "object.__ne__"))) (sub : PySem.W.subIn K (.ref C) (.type "object") = some true)
    (at_ : PySem.W.findIn K (.ref C) "__eq__" = some (some (.ref f))) (fn : PySem.W.isFn K (.ref f) = true)
    (run : wpAny (model prog w) A.in1 (call (.ref f) [.ref x, b]) (fun v s' => ∃ c, v = .bool c ∧ Q (some (.bool (!c))) s') E s) : wpAny (model prog w) A (tryCompare (.ref x) "__ne__" b) Q E s := by
  have inner : wpAny (model prog w) A.in1 (Builtin.«object.__ne__» ⟨[.ref x, b], []⟩) (fun fin s' => ∃ v, fin = .done (.ret v) ∧ v ≠ .notImplemented ∧ Q (some v) s') E s := by
    unfold Builtin.«object.__ne__»
    have eqs : wpAny (model prog w) A.in1 (callSpecialIfBound? (.ref x) "__eq__" [b]) (fun r s' => ∃ c, r = some (.bool c) ∧ Q (some (.bool (!c))) s') E s :=
      PySem.W.ifBound_K kin inst at_ fn (wpAny_mono run (fun v s1 ⟨c, e, q⟩ => ⟨c, by rw [e], q⟩) fun _ _ z => z)
    repeat (first
      | with_reducible refine wpAny_cRoomFor (show A.in1.units < cLine from hu) ?_
      | (refine wpAny_bind (m := callSpecialIfBound? (.ref x) (Str.ofString "__eq__") [b]) (wpAny_mono eqs (fun r s1 g => by
          obtain ⟨c, rfl, q⟩ := g
          refine wpAny_bind (m := truthy (.bool c)) (wpAny_truthy_bool ?_)
          exact wpAny_pure ⟨_, rfl, (fun z => nomatch z), q⟩) fun _ _ z => z))
      | wp_step)
  simp only [tryCompare]
  refine wpAny_bind ?_
  simp only [callSpecialIfBound?, bindSpecialIfBound?]
  have called : wpAny (model prog w) A (call (.builtin "object.__ne__") [.ref x, b]) (fun v s' => v ≠ .notImplemented ∧ Q (some v) s') E s := by
    refine wpAny_call (codeAny_call_builtin PySem.F.cmp_object.ne.plain PySem.F.cmpEntry_ne (PySem.W.check_slot PySem.F.cmpKind_ne PySem.F.cmpSplit_ne (inst.type.andThen (PySem.W.looks_subIn kin sub)) (PySem.F.cmpArgs_ne _ _) (wpAny_mono inner (fun fin s1 g => ?_) fun _ _ z => z)))
    obtain ⟨v, rfl, g⟩ := g
    exact g
  refine wpAny_holding (wpAny_bind (wpAny_bind (wpAny_bind (inst.type.here ((PySem.W.looks_findIn kin at0).here ?_)))))
  have fin : wpAny (model prog w) A (call (.builtin "object.__ne__") ([.ref x] ++ [b]) >>= fun v => pure (some v)) (fun r s' => wpAny (model prog w) A (match r with | some .notImplemented | none => pure none | some v => pure (some v)) Q E s') E s := by
    refine wpAny_bind (wpAny_mono called (fun v s1 g => wpAny_pure ?_) fun _ _ z => z)
    obtain ⟨ne, q⟩ := g
    cases v
    case notImplemented => exact absurd rfl ne
    all_goals exact wpAny_pure q
  refine wpAny_bind (wpAny_askSetting (wpAny_ite ?_))
  have bd : bindSpecial (.builtin "object.__ne__") (.ref x) = pure (.builtin "object.__ne__", [.ref x]) := PySem.F.cmp_object.ne.bind _
  split
  · rw [bd]
    exact wpAny_bind (wpAny_pure (wpAny_pure (by exact fin)))
  · rw [bd]
    exact wpAny_tryCatch (wpAny_bind (wpAny_pure (wpAny_pure (by exact fin))))
end
end EO

namespace EO
open PySem PySem.Spec PyProof.Rows L2
/-- the class at C has the method m, a def that keeps sp by level k -/
structure OpH (P : Program) (w : World) (K : PySem.W.Frag) (mg : Str → Option Value) (base : Heap) (k : Nat) (C : Addr) (m : Str) (sp : Sp) : Prop where
  ex : ∃ g : Addr, PySem.W.findIn K (.ref C) m = some (some (.ref g)) ∧ PySem.W.isFn K (.ref g) = true ∧ FnR P w K mg base CX0 k g sp
/-- C has no != of its own -/
structure NeObj (K : PySem.W.Frag) (C : Addr) : Prop where
  at_ : PySem.W.findIn K (.ref C) "__ne__" = some (some (.builtin "object.__ne__"))
  sub : PySem.W.subIn K (.ref C) (.type "object") = some true
/-- the values that come back from a def -/
theorem got_of {X : Cx} {pins : List (Addr × Obj)} {σ : L2.St} {Q : VK} : ∀ v s', EP X pins σ Q v s' → Got (EP X pins σ Q) v s' := fun v s' h => by
  refine ⟨fun e => ?_, h⟩
  obtain ⟨z, H', _, r, _⟩ := h
  subst e
  cases z
  all_goals first | exact nomatch r | (obtain ⟨_, r⟩ := r; exact nomatch r)
section
variable {X : Cx} {k : Nat} {C : Addr} {sp : Sp} {m : Str}
theorem run_met {pins : List (Addr × Obj)} {σ : L2.St} {H : Hp} {s : Shared} {Q : VK} {g a : Addr} {us : List Value} {vs : List V} (F : FnR X.prog X.w X.K X.mg X.base CX0 k g sp) (hr : Room k X.A) (I : Inv X pins σ H s) (r : Vals vs us) (h : sp (.ref a :: vs) H Q E0) :
    wpAny (model X.prog X.w) X.A (call (.ref g) (.ref a :: us)) (EP X pins σ Q) X.xe s := wpAny_call (run_fnR (us := .ref a :: us) (vs := .ref a :: vs) F hr pass0 I (.cons rfl r) h)
/-- .. a step further in, a truth value comes back -/
theorem run_met1 {pins : List (Addr × Obj)} {σ : L2.St} {H : Hp} {s : Shared} {Q : VK} {g a : Addr} {us : List Value} {vs : List V} {E' : Value → Shared → Prop} (F : FnR X.prog X.w X.K X.mg X.base CX0 k g sp) (hr : Room (k + 1) X.A) (I : Inv X pins σ H s) (r : Vals vs us)
    (h : sp (.ref a :: vs) H Q E0) : wpAny (model X.prog X.w) X.A.in1 (call (.ref g) (.ref a :: us)) (EP X pins σ Q) E' s := by
  refine wpAny_call (codeAny_mono (F X.A.in1 X.stack s H (.ref a :: us) (.ref a :: vs) Q E0 hr.in1 I.env0.in1 (.cons rfl r) h) fun r s' hq => ?_)
  cases r with
  | error er => exact False.elim (pass0 (X := X.nox) pins σ H s er s' (I.wish _) hq)
  | ok fl =>
    cases fl with
    | ret u => exact I.after hq
    | next => exact False.elim hq
    | brk => exact False.elim hq
    | cont => exact False.elim hq
/-- both of the class -/
def rOO (C : Addr) (sp : Sp) : R2 := fun x y H Q => ∃ a dx fs b dy gs, x = .ref a ∧ y = .ref b ∧ H a = some (.ins C dx fs) ∧ H b = some (.ins C dy gs) ∧ sp [.ref a, .ref b] H Q E0
/-- the left one of the class, an int -/
def rOI (C : Addr) (sp : Sp) : R2 := fun x y H Q => ∃ a dx fs i, x = .ref a ∧ y = .int i ∧ H a = some (.ins C dx fs) ∧ sp [.ref a, .int i] H Q E0
/-- an int, the right one of the class -/
def rIO (C : Addr) (sp : Sp) : R2 := fun x y H Q => ∃ i b dy gs, x = .int i ∧ y = .ref b ∧ H b = some (.ins C dy gs) ∧ sp [.ref b, .int i] H Q E0
/-- a != b by == -/
def rNO (C : Addr) (sp : Sp) : R2 := fun x y H Q => ∃ a dx fs b dy gs, x = .ref a ∧ y = .ref b ∧ H a = some (.ins C dx fs) ∧ H b = some (.ins C dy gs) ∧ sp [.ref a, .ref b] H (fun v H' => ∃ c, v = .bl c ∧ Q (.bl (!c)) H') E0
def rU1 (C : Addr) (sp : Sp) : V → Hp → VK → Prop := fun x H Q => ∃ a dx fs, x = .ref a ∧ H a = some (.ins C dx fs) ∧ sp [.ref a] H Q E0
theorem op_oo {op : Operator} (O : OpH X.prog X.w X.K X.mg X.base k C (PySem.dunder op.info.2) sp) (sf : PySem.W.selfFirst X.K C = true) (hr : Room k X.A) : OpR X (binaryOp op) (rOO C sp) := by
  intro pins s σ H x y v u Q I rx ry h
  obtain ⟨a, dx, fs, b, dy, gs, rfl, rfl, ha, hb, q⟩ := h
  obtain rfl : v = Value.ref a := rx
  obtain rfl : u = Value.ref b := ry
  obtain ⟨g, at_, fn, F⟩ := O.ex
  obtain ⟨ox, od, J, _⟩ := StX.insC_at I (.inr ⟨dx, fs, ha⟩)
  obtain ⟨oy, oe, L, _⟩ := StX.insC_at I (.inr ⟨dy, gs, hb⟩)
  exact bin_same I.kIn J L.type sf at_ fn (wpAny_mono (run_met (vs := [.ref b]) F hr I (.cons rfl .nil) q) got_of fun _ _ z => z)
theorem op_oi {op : Operator} (O : OpH X.prog X.w X.K X.mg X.base k C (PySem.dunder op.info.2) sp) (mx : Mix X.K C "int" op.info.2) (hr : Room k X.A) : OpR X (binaryOp op) (rOI C sp) := by
  intro pins s σ H x y v u Q I rx ry h
  obtain ⟨a, dx, fs, i, rfl, rfl, ha, q⟩ := h
  obtain rfl : v = Value.ref a := rx
  obtain ⟨t, rfl⟩ := ry
  obtain ⟨g, at_, fn, F⟩ := O.ex
  obtain ⟨ox, od, J, _⟩ := StX.insC_at I (.inr ⟨dx, fs, ha⟩)
  exact bin_left mx I.kIn J rfl at_ fn (wpAny_mono (run_met (vs := [.int i]) F hr I (.cons ⟨t, rfl⟩ .nil) q) got_of fun _ _ z => z)
/-- what an int's own method says, for the operator -/
structure IntDecl (prog : Program) (w : World) (op : Operator) : Prop where
  fill : fillsNumberSlot (.type "int") op.info.2 = pure true
  ex : ∃ (id : String) (B : Builtin), Slot "int" (PySem.dunder op.info.2) id ∧ entryFor table id = some B ∧ IntNo prog w B ∧ ∀ (i : Int) (t : Tok) (x : Addr), argsOk id ⟨[.int i t, .ref x], []⟩
theorem dec_add {prog : Program} {w : World} : IntDecl prog w .Add := ⟨PySem.F.fills_int_add, _, _, PySem.F.slot_int_add, PySem.F.entry_int_add, no_add, fun _ _ _ => PySem.F.args_int_add_2 _ _⟩
theorem dec_sub {prog : Program} {w : World} : IntDecl prog w .Sub := ⟨PySem.F.fills_int_sub, _, _, PySem.F.slot_int_sub, PySem.F.entry_int_sub, no_sub, fun _ _ _ => PySem.F.args_int_sub_2 _ _⟩
theorem dec_mul {prog : Program} {w : World} : IntDecl prog w .Mult := ⟨PySem.F.fills_int_mul, _, _, PySem.F.slot_int_mul, PySem.F.entry_int_mul, no_mul, fun _ _ _ => PySem.F.args_int_mul_2 _ _⟩
theorem op_io {op : Operator} {g0 : Addr} (O : OpH X.prog X.w X.K X.mg X.base k C (dunderR op.info.2) sp) (D : IntDecl X.prog X.w op) (at0 : PySem.W.findIn X.K (.ref C) (PySem.dunder op.info.2) = some (some (.ref g0))) (sf : PySem.W.selfFirst X.K C = true)
    (sub : PySem.W.subIn X.K (.ref C) (.type "int") = some false) (hr : Room k X.A) : OpR X (binaryOp op) (rIO C sp) := by
  intro pins s σ H x y v u Q I rx ry h
  obtain ⟨i, b, dy, gs, rfl, rfl, hb, q⟩ := h
  obtain ⟨t, rfl⟩ := rx
  obtain rfl : u = Value.ref b := ry
  obtain ⟨g, at_, fn, F⟩ := O.ex
  obtain ⟨fill, id, B, slot, ent, no, args⟩ := D
  obtain ⟨oy, oe, L, pl⟩ := StX.insC_at I (.inr ⟨dy, gs, hb⟩)
  exact bin_right fill I.kIn L sf sub at0 at_ fn (fun R r => int_tryno slot ent no (args _ _ _) L pl r) (wpAny_mono (run_met (vs := [.int i]) F hr I (.cons ⟨t, rfl⟩ .nil) q) got_of fun _ _ z => z)
theorem un_oo {op : UnaryOp} (hop : op ≠ .Not) (hn : m = (match op with | .Invert => "__invert__" | .UAdd => "__pos__" | .USub => "__neg__" | .Not => ("" : Str))) (O : OpH X.prog X.w X.K X.mg X.base k C m sp) (hr : Room k X.A) : UnR X (unaryOp op) (rU1 C sp) := by
  intro pins s σ H x v Q I rx h
  obtain ⟨a, dx, fs, rfl, ha, q⟩ := h
  obtain rfl : v = Value.ref a := rx
  obtain ⟨g, at_, fn, F⟩ := O.ex
  obtain ⟨ox, od, J, _⟩ := StX.insC_at I (.inr ⟨dx, fs, ha⟩)
  exact un_own hop hn I.kIn J at_ fn (run_met F hr I .nil q)
/-- a comparison by an own method, between two of the class, of one with an int -/
theorem cmp_of {op : CmpOp} (hop : (cmpInfo op).1 ≠ "") {a b : Value} {M : Model} {A : Around} {E : Value → Shared → Prop} {s : Shared} {Q : Value → Shared → Prop} (h : wpAny M A (richCompare op a b) Q E s) : wpAny M A (compareOp op a b) Q E s := by
  cases op
  all_goals first | exact h | exact absurd rfl hop
theorem op_coo {op : CmpOp} (hop : (cmpInfo op).1 ≠ "") (O : OpH X.prog X.w X.K X.mg X.base k C (cmpInfo op).2.1 sp) (hr : Room k X.A) : OpR X (compareOp op) (rOO C sp) := by
  intro pins s σ H x y v u Q I rx ry h
  obtain ⟨a, dx, fs, b, dy, gs, rfl, rfl, ha, hb, q⟩ := h
  obtain rfl : v = Value.ref a := rx
  obtain rfl : u = Value.ref b := ry
  obtain ⟨g, at_, fn, F⟩ := O.ex
  obtain ⟨ox, od, J, _⟩ := StX.insC_at I (.inr ⟨dx, fs, ha⟩)
  obtain ⟨oy, oe, L, _⟩ := StX.insC_at I (.inr ⟨dy, gs, hb⟩)
  exact cmp_of hop (rc_left hr.units0 I.kIn J L.type (by unfold PySem.W.notFirst; simp) (cmp_own I.kIn J at_ fn (wpAny_mono (run_met (vs := [.ref b]) F hr I (.cons rfl .nil) q) (fun z s1 e => ⟨(got_of _ _ e).1, z, rfl, e⟩) fun _ _ z => z)))
theorem op_coi {op : CmpOp} (hop : (cmpInfo op).1 ≠ "") (O : OpH X.prog X.w X.K X.mg X.base k C (cmpInfo op).2.1 sp) (sub : PySem.W.subIn X.K (.type "int") (.ref C) = some false) (hr : Room k X.A) : OpR X (compareOp op) (rOI C sp) := by
  intro pins s σ H x y v u Q I rx ry h
  obtain ⟨a, dx, fs, i, rfl, rfl, ha, q⟩ := h
  obtain rfl : v = Value.ref a := rx
  obtain ⟨t, rfl⟩ := ry
  obtain ⟨g, at_, fn, F⟩ := O.ex
  obtain ⟨ox, od, J, _⟩ := StX.insC_at I (.inr ⟨dx, fs, ha⟩)
  exact cmp_of hop (rc_left hr.units0 I.kIn J (tb := .type "int") (PySem.W.Looks.of_pure rfl) (by unfold PySem.W.notFirst; rw [sub]; simp) (cmp_own I.kIn J at_ fn (wpAny_mono (run_met (vs := [.int i]) F hr I (.cons ⟨t, rfl⟩ .nil) q) (fun z s1 e => ⟨(got_of _ _ e).1, z, rfl, e⟩) fun _ _ z => z)))
theorem op_nee (O : OpH X.prog X.w X.K X.mg X.base k C "__eq__" sp) (N : NeObj X.K C) (hr : Room (k + 1) X.A) : OpR X (compareOp .NotEq) (rNO C sp) := by
  intro pins s σ H x y v u Q I rx ry h
  obtain ⟨a, dx, fs, b, dy, gs, rfl, rfl, ha, hb, q⟩ := h
  obtain rfl : v = Value.ref a := rx
  obtain rfl : u = Value.ref b := ry
  obtain ⟨g, at_, fn, F⟩ := O.ex
  obtain ⟨ox, od, J, _⟩ := StX.insC_at I (.inr ⟨dx, fs, ha⟩)
  obtain ⟨oy, oe, L, _⟩ := StX.insC_at I (.inr ⟨dy, gs, hb⟩)
  refine cmp_of (op := .NotEq) (by decide) (rc_left hr.units0 I.kIn J L.type (by unfold PySem.W.notFirst; simp) (ne_try (show X.A.units + 1 < cLine from by have := hr.units; omega) I.kIn J N.at_ N.sub at_ fn (wpAny_mono (run_met1 (vs := [.ref b]) F hr I (.cons rfl .nil) q) (fun z s1 e => ?_) fun _ _ z => z)))
  obtain ⟨v, H', I1, r, c, rfl, q1⟩ := e
  cases (show z = Value.bool c from r)
  exact ⟨c, rfl, _, rfl, .bl _, H', I1, rfl, q1⟩
end
end EO

namespace EO
open PySem PySem.Spec PyProof.Rows L2
section
variable {prog : Program} {w : World} {A : Around} {E : Value → Shared → Prop} {s : Shared} {K : PySem.W.Frag} {x C f : Addr} {ox : Obj} {od : Option Obj} {b : Value}
/-- a op= b, a of a class with a method of its own for it -/
theorem in_own {op : Operator} {Q : Value → Shared → Prop} (kin : K.In s.heap) (inst : PySem.W.InstAt s.heap x ox C od) (sf : PySem.W.selfFirst K C = true) (at_ : PySem.W.findIn K (.ref C) (dunderI op.info.2) = some (some (.ref f)))
    (fn : PySem.W.isFn K (.ref f) = true) (run : wpAny (model prog w) A (call (.ref f) [.ref x, b]) (Got Q) E s) : wpAny (model prog w) A (inplaceOp op (.ref x) b) Q E s := by
  obtain ⟨cd, rest, hcd, hm⟩ := first_own sf
  have fills : PySem.W.Looks (model prog w) s.heap (fillsInplaceSlot (.ref C) op.info.2 (op == .Add)) true := PySem.W.ksp_fillsI kin hcd hm at_
  unfold inplaceOp
  refine wpAny_holding (wpAny_bind (inst.type.here (wpAny_bind (fills.here ?_))))
  rw [if_pos rfl]
  refine wpAny_bind (try_own kin inst at_ fn (wpAny_mono run (fun v s1 g => ⟨g.1, ?_⟩) fun _ _ z => z))
  dsimp only
  first
    | exact wpAny_pure (M := model prog w) (A := A) (E := E) g.2
    | exact wpAny_bind (wpAny_pure (M := model prog w) (A := A) (E := E) (wpAny_pure g.2))
    | (repeat (first | exact g.2 | wp_step))
end
section
variable {X : Cx} {k : Nat} {C : Addr} {sp : Sp} {m : Str}
theorem op_in {op : Operator} (O : OpH X.prog X.w X.K X.mg X.base k C (dunderI op.info.2) sp) (sf : PySem.W.selfFirst X.K C = true) (hr : Room k X.A) : OpR X (inplaceOp op) (rOO C sp) := by
  intro pins s σ H x y v u Q I rx ry h
  obtain ⟨a, dx, fs, b, dy, gs, rfl, rfl, ha, hb, q⟩ := h
  obtain rfl : v = Value.ref a := rx
  obtain rfl : u = Value.ref b := ry
  obtain ⟨g, at_, fn, F⟩ := O.ex
  obtain ⟨ox, od, J, _⟩ := StX.insC_at I (.inr ⟨dx, fs, ha⟩)
  exact in_own I.kIn J sf at_ fn (wpAny_mono (run_met (vs := [.ref b]) F hr I (.cons rfl .nil) q) got_of fun _ _ z => z)
end
end EO

namespace EN
open PySem L2 PyProof.Rows
section
variable {P : Program} {w : World} {K : PySem.W.Frag} {mg : Str → Option Value} {base : Heap} {f : Addr} {fd : FuncData}
structure MkH (P : Program) (w : World) (K : PySem.W.Frag) (mg : Str → Option Value) (base : Heap) (k : Nat) (C : Addr) (dvs : List V) (sp : Sp) : Prop where
  ex : ∃ (f : Addr) (fd : FuncData) (ps : List Str) (ds : List Value), Mk K C f ∧ FnOk P w K mg base CX0 k f fd ps sp ∧ Binds K fd ps ds ∧ Vals dvs ds
section
variable {X : Cx} {k : Nat} {C : Addr} {dvs : List V} {sp : Sp} {x m : Str} {p pos apos : Pos} {o e : Expr} {es : List Expr} {t : TA} {ta : TE} {pl : Sem Bool}
theorem pe_mkH (O : MkH X.prog X.w X.K X.mg X.base k C dvs sp) (hr : Room (k + 1) X.A) (hg : Gl X x) (hm : X.mg x = some (.ref C)) (ha : PA X (e :: es) t) (hdb : (x == ("__debug__" : Str)) = false := by decide)
    (he : starEach (e :: es) X.env = (false, eval e X.env) :: starEach es X.env := by rfl) (hpl : (backTo pos (starEach es X.env)).any (·.1) = false := by rfl) : PE X (.Call (.Name x p) (e :: es) [] pos) (tMake C sp dvs E0 t) := by
  obtain ⟨f, fd, ps, ds, M, F, hb, hd⟩ := O.ex
  exact pe_make M F hr hg hm hb hd pass0 ha hdb he hpl
end
theorem okD {x qual : Str} {params : Arguments} {body : List Stmt} {scope : Scope} {dvs : List V} {kws : List (Str × V)} {N ps : List Str} {k : Nat} {sp : Sp} (F : FunD K x qual params body scope dvs kws f fd) (S : FnScope N ps scope) (len : ∀ vs H Q E, sp vs H Q E → vs.length = ps.length)
    (hbody : ∀ (cdv : Value) (A : Around) (outer : List Env) (s : Shared) (H : Hp) (vs : List V) (Q : VK) (E : XK), Room k (A.deeper (envOfC qual scope s.heap.objs.size f cdv)) → sp vs H Q E →
      ∃ t, PSs (cxOf CX0 P w K mg base N qual scope f cdv A outer s H E).nox body t ∧ t { nx := fun _ H' => Q .non H', rt := Q } (start N vs) H) : FnOk P w K mg base CX0 (k + 1) f fd ps sp :=
  F.ok S len fun cdv A outer s H vs Q E hr hs => by
    obtain ⟨t, h, q⟩ := hbody cdv A outer s H vs Q E hr hs
    exact ⟨t, h.nox, q⟩

/-- what isinstance asks of an own class -/
structure OwnC (K : PySem.W.Frag) (C : Addr) : Prop where
  cl : Cls K C
  ha : PySem.W.findIn K (.ref C) "__class__" = some (some (.builtin "object.__class__"))
  hn : PySem.W.specialIn K (.builtin "object.__class__") "__get__" = some (some (.builtin "getset_descriptor.__get__"))
  htk : PySem.W.takesIn K (.builtin "object.__class__") = some true
  hm : PySem.W.mroIn K C (.type "object") = some true
  me : PySem.W.kitOne K (.ref C) (.ref C) = some true
theorem OwnC.ty {C : Addr} {H : Hp} {a dx : Addr} {fs : List (Str × V)} (o : OwnC K C) (e : H a = some (.ins C dx fs)) : TyX K H (.ref a) (.ref C) := .base (.ins e o.cl o.ha o.hn o.htk o.hm)
/-- ints and tuples are no spans -/
structure NoC (K : PySem.W.Frag) (C : Addr) : Prop where
  int_ : PySem.W.kitOne K (.type "int") (.ref C) = some false
  tup : PySem.W.kitOne K (.type "tuple") (.ref C) = some false
end
end EN

namespace EN
open PySem L2 PyProof.Rows
section
variable {P : Program} {w : World} {K : PySem.W.Frag} {mg : Str → Option Value} {base : Heap} {f : Addr} {fd : FuncData}
abbrev s_check_wholes : Stmt := top 11
abbrev N_check_wholes : List Str := ["values", "value"]
theorem sc_check_wholes : FnScope N_check_wholes ["values"] (defScope s_check_wholes) := ⟨rfl, rfl, rfl, by decide +kernel, rfl, by decide +kernel, by decide +kernel⟩

theorem ok_check_wholes (F : Fun K "check_wholes" "check_wholes" s_check_wholes f fd) (T : Blt mg) (G_is_whole : Has P w K mg base 1 "is_whole" ["value"] spIsWhole) : FnOk P w K mg base CX0 2 f fd ["values"] (spCheckWholes K) := by
  refine F.ok sc_check_wholes (fun vs H Q E h => ?_) (fun cdv A outer s H vs Q E hr h => ?_)
  · obtain ⟨a, r, rfl, _⟩ := h
    rfl
  · obtain ⟨a, r, rfl, hS | hS, hl, k⟩ := h
    · refine ⟨_, (pss_one (ps_if (PW.pt (pw_or (pt_not (pt_val (pe_callB (show CallR _ _ (rIsiT K) from call_isiT) (by rfl) T.isinstance_ (by decide +kernel) (pa_cons (pv 0) (pa_cons (pe_tup (pa_cons (pe_bltn (v := .ty "list") (u := .type "list") (by rfl) T.list_ (by decide +kernel) rfl) (pa_cons (pe_bltn (v := .ty "tuple") (u := .type "tuple") (by rfl) T.tuple_ (by decide +kernel) rfl) pa_nil))) pa_nil))))) (pw_or1 (pt_not (pt_val (pe_callB (show CallR _ _ (rAll K) from cr_all rfl) (by rfl) T.all_ (by decide +kernel) (pa_cons (pe_lc (own := [("value", 1)]) (g := gName 1) (tt := tYes) (by rfl) sc_check_wholes.nd (pi_list (pv 0)) (blkOk_by (own := [("value", 1)]) (N := N_check_wholes) (sc := defScope s_check_wholes) (by decide +kernel)) (fun _ _ _ _ _ => (pg_name (i := 1) sc_check_wholes.nd rfl (by first | exact Or.inl rfl | exact Or.inr rfl))) (fun _ _ _ _ _ => pts_nil) (fun _ _ _ _ _ => (pe_has G_is_whole (hr.mono (by decide)) (pa_cons (pv 1) pa_nil)))) pa_nil)))))))
      (pss_one ps_never)
      pss_nil)), ?_⟩
      refine ⟨_, rfl, (by show 2 ≤ sizeLine; decide), fun tp htp => ?_⟩
      have s1 := same_new (Same.refl H) (.tup [.ty "list", .ty "tuple"]) htp
      refine ⟨.ref a, tp, _, .type "list", [.type "list", .type "tuple"], true, rfl, upd_same, .cons (.ty _) (.cons (.ty _) .nil), tyx_lst (s1.seq hS), kitAny_cons (b := true) (kit_ty (by decide +kernel)) (fun z => nomatch z) (fun _ => rfl), true, rfl, iteF ?_⟩
      refine ⟨_, rfl, a, rfl, ⟨_, s1.seq hS⟩, fun D hD => ?_⟩
      refine ZK.lc_growL (K := K) (a := a) (xs := r.map V.int) (small1000 (by rw [List.length_map]; exact hl)) (fun _ H' => Same H H') (fun i y => y = .bl true) (same_new s1 _ hD) (fun i H' s' => s'.seq hS) ?_ ?_
      · intro i x H1 acc hx s2 hacc hal hR Qn hq
        obtain ⟨_, rfl⟩ := int_at hx
        exact ⟨rfl, _, rfl, _, rfl, hq _ _ rfl hacc (same_but_new s2 (s1.free hD))⟩
      · intro H1 acc s2 hacc hal hR
        have e := ZK.eq_map hal hR
        refine ⟨D, (List.range r.length).map fun _ => true, rfl, SqL.of ?_, _, rfl, ?_⟩
        · rw [hacc, e, List.length_map, List.map_map]
          rfl
        · rw [all_true]
          exact iteF (k _ s2)
    · refine ⟨_, (pss_one (ps_if (PW.pt (pw_or (pt_not (pt_val (pe_callB (show CallR _ _ (rIsiT K) from call_isiT) (by rfl) T.isinstance_ (by decide +kernel) (pa_cons (pv 0) (pa_cons (pe_tup (pa_cons (pe_bltn (v := .ty "list") (u := .type "list") (by rfl) T.list_ (by decide +kernel) rfl) (pa_cons (pe_bltn (v := .ty "tuple") (u := .type "tuple") (by rfl) T.tuple_ (by decide +kernel) rfl) pa_nil))) pa_nil))))) (pw_or1 (pt_not (pt_val (pe_callB (show CallR _ _ (rAll K) from cr_all rfl) (by rfl) T.all_ (by decide +kernel) (pa_cons (pe_lc (own := [("value", 1)]) (g := gName 1) (tt := tYes) (by rfl) sc_check_wholes.nd (pi_tup (pv 0)) (blkOk_by (own := [("value", 1)]) (N := N_check_wholes) (sc := defScope s_check_wholes) (by decide +kernel)) (fun _ _ _ _ _ => (pg_name (i := 1) sc_check_wholes.nd rfl (by first | exact Or.inl rfl | exact Or.inr rfl))) (fun _ _ _ _ _ => pts_nil) (fun _ _ _ _ _ => (pe_has G_is_whole (hr.mono (by decide)) (pa_cons (pv 1) pa_nil)))) pa_nil)))))))
      (pss_one ps_never)
      pss_nil)), ?_⟩
      refine ⟨_, rfl, (by show 2 ≤ sizeLine; decide), fun tp htp => ?_⟩
      have s1 := same_new (Same.refl H) (.tup [.ty "list", .ty "tuple"]) htp
      refine ⟨.ref a, tp, _, .type "tuple", [.type "list", .type "tuple"], true, rfl, upd_same, .cons (.ty _) (.cons (.ty _) .nil), tyx_tup (sqT_same s1 hS), kitAny_cons (b := false) (kit_ty (by decide +kernel)) (fun _ => kitAny_cons (b := true) (kit_ty (by decide +kernel)) (fun z => nomatch z) (fun _ => rfl)) (fun z => nomatch z), true, rfl, iteF ?_⟩
      refine ⟨_, rfl, a, rfl, ⟨_, sqT_same s1 hS⟩, fun D hD => ?_⟩
      refine ZK.lc_growT (K := K) (a := a) (xs := r.map V.int) (small1000 (by rw [List.length_map]; exact hl)) (fun _ H' => Same H H') (fun i y => y = .bl true) (same_new s1 _ hD) (fun i H' s' => sqT_same s' hS) ?_ ?_
      · intro i x H1 acc hx s2 hacc hal hR Qn hq
        obtain ⟨_, rfl⟩ := int_at hx
        exact ⟨rfl, _, rfl, _, rfl, hq _ _ rfl hacc (same_but_new s2 (s1.free hD))⟩
      · intro H1 acc s2 hacc hal hR
        have e := ZK.eq_map hal hR
        refine ⟨D, (List.range r.length).map fun _ => true, rfl, SqL.of ?_, _, rfl, ?_⟩
        · rw [hacc, e, List.length_map, List.map_map]
          rfl
        · rw [all_true]
          exact iteF (k _ s2)
end
end EN

namespace EN
open PySem L2 PyProof.Rows
section
variable {P : Program} {w : World} {K : PySem.W.Frag} {mg : Str → Option Value} {base : Heap} {f : Addr} {fd : FuncData}
abbrev s_check_whole : Stmt := top 9
abbrev N_check_whole : List Str := ["value"]
theorem sc_check_whole : FnScope N_check_whole ["value"] (defScope s_check_whole) := ⟨rfl, rfl, rfl, by decide +kernel, rfl, by decide +kernel, by decide +kernel⟩

theorem ok_check_whole (F : Fun K "check_whole" "check_whole" s_check_whole f fd) (T : Blt mg) (G_is_whole : Has P w K mg base 1 "is_whole" ["value"] spIsWhole) : FnOk P w K mg base CX0 2 f fd ["value"] spCheckWhole := by
  refine F.ok sc_check_whole (fun vs H Q E h => ?_) (fun cdv A outer s H vs Q E hr h => ?_)
  · obtain ⟨i, rfl, _⟩ := h
    rfl
  · obtain ⟨i, rfl, k⟩ := h
    refine ⟨_, (pss_one (ps_if (pt_not (pt_val (pe_has G_is_whole (hr.mono (by decide)) (pa_cons (pv 0) pa_nil))))
      (pss_one ps_never)
      pss_nil)), ?_⟩
    exact ⟨_, rfl, i, rfl, _, rfl, iteF k⟩
end
end EN

namespace EN
open PySem L2 PyProof.Rows
section
variable {P : Program} {w : World} {K : PySem.W.Frag} {mg : Str → Option Value} {base : Heap} {f : Addr} {fd : FuncData}
abbrev s_check_from : Stmt := top 10
abbrev N_check_from : List Str := ["value", "bound"]
theorem sc_check_from : FnScope N_check_from ["value", "bound"] (defScope s_check_from) := ⟨rfl, rfl, rfl, by decide +kernel, rfl, by decide +kernel, by decide +kernel⟩

theorem ok_check_from (F : Fun K "check_from" "check_from" s_check_from f fd) (T : Blt mg) (G_is_whole : Has P w K mg base 1 "is_whole" ["value"] spIsWhole) : FnOk P w K mg base CX0 2 f fd ["value", "bound"] spCheckFrom := by
  refine F.ok sc_check_from (fun vs H Q E h => ?_) (fun cdv A outer s H vs Q E hr h => ?_)
  · obtain ⟨i, b, rfl, _⟩ := h
    rfl
  · obtain ⟨i, b, rfl, hb, k⟩ := h
    refine ⟨_, (pss_one (ps_if (PW.pt (pw_or (pt_not (pt_val (pe_has G_is_whole (hr.mono (by decide)) (pa_cons (pv 0) pa_nil)))) (pw_or1 (pt_cmpR op_lt (pv 0) (pv 1) (nomark _)))))
      (pss_one ps_never)
      pss_nil)), ?_⟩
    refine ⟨_, rfl, i, rfl, _, rfl, iteF ⟨_, rfl, _, rfl, _, _, rfl, rfl, _, rfl, ?_⟩⟩
    refine ite2 (fun h => ?_) (fun _ => k)
    have := of_decide_eq_true h
    omega
end
end EN

namespace EN
open PySem L2 PyProof.Rows
section
variable {P : Program} {w : World} {K : PySem.W.Frag} {mg : Str → Option Value} {base : Heap} {f : Addr} {fd : FuncData}
abbrev s_is_whole : Stmt := top 8
abbrev N_is_whole : List Str := ["value"]
theorem sc_is_whole : FnScope N_is_whole ["value"] (defScope s_is_whole) := ⟨rfl, rfl, rfl, by decide +kernel, rfl, by decide +kernel, by decide +kernel⟩

theorem ok_is_whole (F : Fun K "is_whole" "is_whole" s_is_whole f fd) (T : Blt mg) : FnOk P w K mg base CX0 1 f fd ["value"] spIsWhole := by
  refine F.ok sc_is_whole (fun vs H Q E h => ?_) (fun cdv A outer s H vs Q E hr h => ?_)
  · obtain ⟨i, rfl, _⟩ := h
    rfl
  · obtain ⟨i, rfl, k⟩ := h
    refine ⟨_, (pss_one (ps_ret (pe_and (pe_callB (show CallR _ _ (rIsi K) from call_isi) (by rfl) T.isinstance_ (by decide +kernel) (pa_cons (pv 0) (pa_cons (pe_bltn (v := .ty "int") (u := .type "int") (by rfl) T.int_ (by decide +kernel) rfl) pa_nil))) (pe_one (pe_not (pe_callB (show CallR _ _ (rIsi K) from call_isi) (by rfl) T.isinstance_ (by decide +kernel) (pa_cons (pv 0) (pa_cons (pe_bltn (v := .ty "bool") (u := .type "bool") (by rfl) T.bool_ (by decide +kernel) rfl) pa_nil)))))))), ?_⟩
    refine ⟨_, rfl, .int i, .ty "int", .type "int", .type "int", true, rfl, .ty _, .base (.int _), kit_ty (by decide +kernel), true, rfl, iteT ?_⟩
    refine ⟨_, rfl, .int i, .ty "bool", .type "int", .type "bool", false, rfl, .ty _, .base (.int _), kit_ty (by decide +kernel), false, rfl, k⟩
end
end EN

namespace EN
open PySem L2 PyProof.Rows
section
variable {P : Program} {w : World} {K : PySem.W.Frag} {mg : Str → Option Value} {base : Heap} {f : Addr} {fd : FuncData}
/-! ### sizes -/
/-- a Size at s: its row is the tuple of the ints ms -/
def SizeAt (K : PySem.W.Frag) (C : Addr) (H : Hp) (s : Addr) (ms : List Int) : Prop := ∃ dx t : Addr, H s = some (.ins C dx [("row", .ref t)]) ∧ SqT K H t (ms.map V.int) ∧ ms.length ≤ 1000
theorem SizeAt.same {C : Addr} {H H' : Hp} {s : Addr} {ms : List Int} (h : SizeAt K C H s ms) (e : Same H H') : SizeAt K C H' s ms := by
  obtain ⟨dx, t, h1, h2, h3⟩ := h
  exact ⟨dx, t, e _ _ h1, sqT_same e h2, h3⟩
theorem Pen.size {C : Addr} {H H' : Hp} {p c s : Addr} {ns : List Int} {B : Nat} {ms : List Int} (P : Pen H p c ns B) (e : But p H H') (h : SizeAt K C H s ms) : SizeAt K C H' s ms := by
  obtain ⟨dx, t, h1, h2, h3⟩ := h
  obtain ⟨b, r, z, _⟩ := P.at_
  exact ⟨dx, t, e _ _ h1 (ne_of h1 z (by intro q; cases q)), P.sqT e h2, h3⟩
/-- a size or an integer -/
def NumAt (K : PySem.W.Frag) (C : Addr) (H : Hp) (v : V) (r : List Int) : Prop := (∃ s, v = .ref s ∧ SizeAt K C H s r) ∨ (∃ i : Int, v = .int i ∧ r = [i])
theorem NumAt.same {C : Addr} {H H' : Hp} {v : V} {r : List Int} (h : NumAt K C H v r) (e : Same H H') : NumAt K C H' v r := by
  rcases h with ⟨s, rfl, h⟩ | ⟨i, rfl, rfl⟩
  · exact .inl ⟨s, rfl, h.same e⟩
  · exact .inr ⟨i, rfl, rfl⟩
def spSInit (K : PySem.W.Frag) (C : Addr) : Sp := fun vs H Q _ => ∃ (x dx a : Addr) (r : List Int), vs = [.ref x, .ref a] ∧ H x = some (.ins C dx []) ∧ SeqI K H a r ∧ r.length ≤ 1000 ∧
  ∀ H' : Hp, (∀ b o, H b = some o → b ≠ x → H' b = some o) → SizeAt K C H' x (M.cut r) → Q .non H'
def spRowOfN (K : PySem.W.Frag) (C : Addr) : Sp := fun vs H Q _ => ∃ (v : V) (r : List Int), vs = [v] ∧ NumAt K C H v r ∧ ∀ (t : Addr) (H' : Hp), Same H H' → SqT K H' t (r.map V.int) → Q (.ref t) H'
/-- a new size of two -/
def spS2 (K : PySem.W.Frag) (C : Addr) (op : List Int → List Int → List Int) (ok : List Int → List Int → Prop) : Sp := fun vs H Q _ => ∃ (s : Addr) (v : V) (ms ns : List Int), vs = [.ref s, v] ∧ SizeAt K C H s ms ∧ NumAt K C H v ns ∧ ok ms ns ∧
  ∀ (z : Addr) (H' : Hp), Same H H' → H z = none → SizeAt K C H' z (M.cut (op ms ns)) → Q (.ref z) H'
def okAdd (ms ns : List Int) : Prop := ms.length ≤ 900 ∧ ns.length ≤ 900
def okSub (ms ns : List Int) : Prop := ms.length ≤ 900 ∧ ns.length ≤ 900 ∧ SzA 800000 ns
def okMul (ms ns : List Int) : Prop := ms.length ≤ 16 ∧ ns.length ≤ 16 ∧ SzA 200000 ms ∧ SzA 200000 ns
def okRsub (ms ns : List Int) : Prop := ms.length ≤ 900 ∧ ns.length ≤ 900 ∧ SzA 800000 ms
/-- other - self, by - -/
def rsub (ms ns : List Int) : List Int := M.plus (M.cut (M.times ms (-1))) ns
def spNeg (K : PySem.W.Frag) (C : Addr) : Sp := fun vs H Q _ => ∃ (s : Addr) (ms : List Int), vs = [.ref s] ∧ SizeAt K C H s ms ∧ ms.length ≤ 900 ∧ SzA 800000 ms ∧ ∀ (z : Addr) (H' : Hp), Same H H' → H z = none → SizeAt K C H' z (M.cut (M.times ms (-1))) → Q (.ref z) H'
def spMove (K : PySem.W.Frag) (C : Addr) (sg : Int) : Sp := fun vs H Q _ => ∃ (s : Addr) (ms : List Int) (k : Int), vs = [.ref s, .int k] ∧ SizeAt K C H s ms ∧ ms.length ≤ 16 ∧ SzA 200000 ms ∧ Sz 9000 k ∧ ∀ (z : Addr) (H' : Hp), Same H H' → H z = none → SizeAt K C H' z (M.cut (M.ah ms (sg * k))) → Q (.ref z) H'
def spPow (K : PySem.W.Frag) (C : Addr) : Sp := fun vs H Q _ => ∃ (s : Addr) (ms : List Int) (e : Nat), vs = [.ref s, .int (e : Int)] ∧ SizeAt K C H s ms ∧ ms.length ≤ 4 ∧ SzA 10000 ms ∧ e ≤ 3 ∧ ∀ (z : Addr) (R : List Int) (H' : Hp), Same H H' → H z = none → SizeAt K C H' z (M.cut R) → (∀ n, M.val R n = M.val ms n ^ e) → Q (.ref z) H'
def spSEq (K : PySem.W.Frag) (C : Addr) : Sp := fun vs H Q _ => ∃ (s u : Addr) (ms ns : List Int), vs = [.ref s, .ref u] ∧ SizeAt K C H s ms ∧ SizeAt K C H u ns ∧ Q (.bl (decide (ms = ns))) H
def spSEqI (K : PySem.W.Frag) (C : Addr) : Sp := fun vs H Q _ => ∃ (s : Addr) (i : Int), vs = [.ref s, .int i] ∧ Q (.bl false) H
abbrev s_sinit : Stmt := inClass (top 36) 0
abbrev N_sinit : List Str := ["self", "row"]
theorem sc_sinit : FnScope N_sinit ["self", "row"] (defScope s_sinit) := ⟨rfl, rfl, rfl, by decide +kernel, rfl, by decide +kernel, by decide +kernel⟩

theorem ok_sinit {C : Addr} {dvs : List V} {kws : List (Str × V)} (F : FunD K "__init__" "Size.__init__" (defArgs s_sinit) (defBody s_sinit) (defScope s_sinit) dvs kws f fd) (cl : Cls K C) (nR : NoAttr K C "row") (G_check_wholes : Has P w K mg base 2 "check_wholes" ["values"] (spCheckWholes K)) (G_trimmed : Has P w K mg base 1 "trimmed" ["row"] (spTrim K)) :
    FnOk P w K mg base CX0 3 f fd ["self", "row"] (spSInit K C) := by
  refine okD F sc_sinit (fun vs H Q E h => ?_) (fun cdv A outer s H vs Q E hr h => ?_)
  · obtain ⟨x, dx, a, r, rfl, _⟩ := h
    rfl
  · obtain ⟨x, dx, a, r, rfl, hx, hS, hl, k⟩ := h
    refine ⟨_, (pss_cons (ps_expr (pe_has G_check_wholes (hr.mono (by decide)) (pa_cons (pv 1) pa_nil)))
    (pss_one (ps_fld (pv 0) (pe_has G_trimmed (hr.mono (by decide)) (pa_cons (pv 1) pa_nil)) rfl))), ?_⟩
    refine ⟨_, rfl, a, r, rfl, hS, hl, fun H1 s1 => ?_⟩
    refine ⟨_, rfl, a, r, rfl, SeqI.same s1 hS, hl, fun t H2 s2 ht => ?_⟩
    have hx2 := s2 _ _ (s1 _ _ hx)
    refine ⟨_, rfl, x, C, dx, [], rfl, hx2, cl, nR, (by show 0 < 1000; decide), ?_⟩
    refine k _ (fun b o e n => ?_) ⟨dx, t, upd_same, sqT_upd ht hx2, ?_⟩
    · rw [upd_ne n]
      exact s2 _ _ (s1 _ _ e)
    · exact Nat.le_trans (cut_len r) hl
/-- a new Size is made -/
theorem made {C : Addr} {H1 : Hp} {a : Addr} {r : List Int} {Q : VK} (hS : SeqI K H1 a r) (hl : r.length ≤ 1000) (k : ∀ (z : Addr) (H' : Hp), Same H1 H' → H1 z = none → SizeAt K C H' z (M.cut r) → Q (.ref z) H') :
    ∀ x dx, H1 x = none → H1 dx = none → dx ≠ x → spSInit K C [.ref x, .ref a] (upd (upd H1 dx (.own x)) x (.ins C dx [])) (fun v H2 => v = .non ∧ Q (.ref x) H2) E0 := fun x dx nx nd ne => by
  have s1 : Same H1 (upd (upd H1 dx (.own x)) x (.ins C dx [])) := fun b o e => by
    rw [upd_ne (ne_of_none e nx), upd_ne (ne_of_none e nd)]
    exact e
  refine ⟨x, dx, a, r, rfl, upd_same, SeqI.same s1 hS, hl, fun H2 keep hz => ⟨rfl, k x H2 (fun b o e => keep b o (s1 b o e) (ne_of_none e nx)) nx hz⟩⟩
theorem madeQ {C : Addr} {H1 : Hp} {a x dx : Addr} {r : List Int} (hS : SeqI K H1 a r) (hl : r.length ≤ 1000) (nx : H1 x = none) (nd : H1 dx = none) (ne : dx ≠ x) {Q2 : VK} (k : ∀ H' : Hp, Same H1 H' → SizeAt K C H' x (M.cut r) → Q2 .non H') :
    spSInit K C [.ref x, .ref a] (upd (upd H1 dx (.own x)) x (.ins C dx [])) Q2 E0 := by
  have s1 : Same H1 (upd (upd H1 dx (.own x)) x (.ins C dx [])) := fun b o e => by
    rw [upd_ne (ne_of_none e nx), upd_ne (ne_of_none e nd)]
    exact e
  exact ⟨x, dx, a, r, rfl, upd_same, SeqI.same s1 hS, hl, fun H2 keep hz => k H2 (fun b o e => keep b o (s1 b o e) (ne_of_none e nx)) hz⟩
abbrev s_row_of : Stmt := top 33
abbrev N_row_of : List Str := ["value"]
theorem sc_row_of : FnScope N_row_of ["value"] (defScope s_row_of) := ⟨rfl, rfl, rfl, by decide +kernel, rfl, by decide +kernel, by decide +kernel⟩

theorem ok_row_of {C_Size : Addr} (F : Fun K "row_of" "row_of" s_row_of f fd) (T : Blt mg) (o : OwnC K C_Size) (no : NoC K C_Size) (nR : NoAttr K C_Size "row") (g_Size : mg "Size" = some (.ref C_Size)) (G_is_whole : Has P w K mg base 1 "is_whole" ["value"] spIsWhole) : FnOk P w K mg base CX0 2 f fd ["value"] (spRowOfN K C_Size) := by
  refine F.ok sc_row_of (fun vs H Q E h => ?_) (fun cdv A outer s H vs Q E hr h => ?_)
  · obtain ⟨v, r, rfl, _⟩ := h
    rfl
  · obtain ⟨v, r, rfl, hN, k⟩ := h
    refine ⟨_, (pss_cons (ps_if (pt_val (pe_callB (show CallR _ _ (rIsi K) from call_isi) (by rfl) T.isinstance_ (by decide +kernel) (pa_cons (pv 0) (pa_cons (pe_glob (v := .ref C_Size) (by rfl) g_Size rfl) pa_nil))))
      (pss_one (ps_ret (pe_fld (pv 0) rfl)))
      pss_nil)
    (pss_cons (ps_if (pt_val (pe_has G_is_whole (hr.mono (by decide)) (pa_cons (pv 0) pa_nil)))
      (pss_one (ps_ret (pe_tup (pa_cons (pv 0) pa_nil))))
      pss_nil)
    (pss_one (ps_ret pe_non)))), ?_⟩
    rcases hN with ⟨z, rfl, dx, t, h1, h2, h3⟩ | ⟨i, rfl, rfl⟩
    · refine ⟨_, rfl, .ref z, .ref C_Size, .ref C_Size, .ref C_Size, true, rfl, .own _, o.ty h1, o.me, true, rfl, iteT ?_⟩
      exact ⟨_, rfl, z, C_Size, dx, _, _, rfl, h1, o.cl, nR, look1, k t H (Same.refl H) h2⟩
    · refine ⟨_, rfl, .int i, .ref C_Size, .type "int", .ref C_Size, false, rfl, .own _, .base (.int _), no.int_, false, rfl, iteF ?_⟩
      refine ⟨_, rfl, i, rfl, true, rfl, iteT ?_⟩
      exact ⟨_, rfl, (by show 1 ≤ sizeLine; decide), fun t ht => k t _ (same_new (Same.refl H) _ ht) (SqT.of upd_same)⟩
abbrev s_seq_ : Stmt := inClass (top 36) 5
abbrev N_seq_ : List Str := ["self", "other"]
theorem sc_seq_ : FnScope N_seq_ ["self", "other"] (defScope s_seq_) := ⟨rfl, rfl, rfl, by decide +kernel, rfl, by decide +kernel, by decide +kernel⟩

theorem ok_seq_ {C_Size : Addr} (F : Fun K "__eq__" "Size.__eq__" s_seq_ f fd) (T : Blt mg) (o : OwnC K C_Size) (nR : NoAttr K C_Size "row") (g_Size : mg "Size" = some (.ref C_Size)) : FnOk P w K mg base CX0 1 f fd ["self", "other"] (spSEq K C_Size) := by
  refine F.ok sc_seq_ (fun vs H Q E h => ?_) (fun cdv A outer s H vs Q E hr h => ?_)
  · obtain ⟨_, _, _, _, rfl, _⟩ := h
    rfl
  · obtain ⟨z, u, ms, ns, rfl, ⟨dx, t, h1, h2, h3⟩, ⟨dy, t', g1, g2, g3⟩, k⟩ := h
    refine ⟨_, (pss_one (ps_ret (pe_and (pe_callB (show CallR _ _ (rIsi K) from call_isi) (by rfl) T.isinstance_ (by decide +kernel) (pa_cons (pv 1) (pa_cons (pe_glob (v := .ref C_Size) (by rfl) g_Size rfl) pa_nil))) (pe_one (pe_cmpR (show OpR _ _ (rEqD K) from op_eqD hr.units) (pe_fld (pv 0) rfl) (pe_fld (pv 1) rfl) (nomark _)))))), ?_⟩
    refine ⟨_, rfl, .ref u, .ref C_Size, .ref C_Size, .ref C_Size, true, rfl, .own _, o.ty g1, o.me, true, rfl, iteT ?_⟩
    refine ⟨_, rfl, z, C_Size, dx, _, _, rfl, h1, o.cl, nR, look1, _, rfl, u, C_Size, dy, _, _, rfl, g1, o.cl, nR, look1, ?_⟩
    refine ⟨_, _, dp_tup h2, dp_tup g2, shaped_tup _, shaped_tup _, ?_⟩
    rw [eqv_tup]
    exact k
theorem ok_seqi {C_Size : Addr} (F : Fun K "__eq__" "Size.__eq__" s_seq_ f fd) (T : Blt mg) (o : OwnC K C_Size) (no : NoC K C_Size) (nR : NoAttr K C_Size "row") (g_Size : mg "Size" = some (.ref C_Size)) : FnOk P w K mg base CX0 1 f fd ["self", "other"] (spSEqI K C_Size) := by
  refine F.ok sc_seq_ (fun vs H Q E h => ?_) (fun cdv A outer s H vs Q E hr h => ?_)
  · obtain ⟨_, _, rfl, _⟩ := h
    rfl
  · obtain ⟨z, i, rfl, k⟩ := h
    refine ⟨_, (pss_one (ps_ret (pe_and (pe_callB (show CallR _ _ (rIsi K) from call_isi) (by rfl) T.isinstance_ (by decide +kernel) (pa_cons (pv 1) (pa_cons (pe_glob (v := .ref C_Size) (by rfl) g_Size rfl) pa_nil))) (pe_one (pe_cmpR (show OpR _ _ (rEqD K) from op_eqD hr.units) (pe_fld (pv 0) rfl) (pe_fld (pv 1) rfl) (nomark _)))))), ?_⟩
    exact ⟨_, rfl, .int i, .ref C_Size, .type "int", .ref C_Size, false, rfl, .own _, .base (.int _), no.int_, false, rfl, iteF k⟩
end
end EN

namespace EN
open PySem L2 PyProof.Rows
section
variable {P : Program} {w : World} {K : PySem.W.Frag} {mg : Str → Option Value} {base : Heap} {f : Addr} {fd : FuncData}
abbrev s_integer : Stmt := top 43
abbrev N_integer : List Str := ["_law_pen_here", "_law_way", "_law_side"]
theorem sc_integer : FnScope N_integer ["_law_pen_here"] (defScope s_integer) := ⟨rfl, rfl, rfl, by decide +kernel, rfl, by decide +kernel, by decide +kernel⟩

theorem side_ok {d y : Int} (h0 : 0 ≤ d) (h1 : d < 2) (y0 : Sz 200 y) : CMulW (1 - 2 * d) y ∧ Sz 200 ((1 - 2 * d) * y) := by
  have hd : d = 0 ∨ d = 1 := by omega
  rcases hd with rfl | rfl
  · refine ⟨Sz.mulOk (a := 2) (by unfold Sz; decide) y0 (by decide), ?_⟩
    have e : (1 - 2 * 0 : Int) * y = y := by omega
    rw [e]; exact y0
  · refine ⟨Sz.mulOk (a := 2) (by unfold Sz; decide) y0 (by decide), ?_⟩
    have e : (1 - 2 * 1 : Int) * y = -y := by omega
    rw [e]; exact y0.neg
theorem ok_integer (F : Fun K "_law_integer" "_law_integer" s_integer f fd) (T : Blt mg) (G_draw : Has P w K mg base 1 "_law_draw" ["_law_pen_here", "_law_many"] spDraw) (G_great : Has P w K mg base 2 "_law_great" ["_law_pen_here", "_law_many"] spGreat) : FnOk P w K mg base CX0 3 f fd ["_law_pen_here"] spInteger := by
  refine F.ok sc_integer (fun vs H Q E h => ?_) (fun cdv A outer s H vs Q E hr h => ?_)
  · obtain ⟨p, c, ns, B, rfl, _⟩ := h
    rfl
  · obtain ⟨p, c, ns, B, rfl, hP, hB, k⟩ := h
    refine ⟨_, (pss_cons (ps_par (i := 1) (j := 2) (by rfl) sc_integer.nd rfl rfl (by decide) rfl rfl (pa_cons (pe_has G_draw (hr.mono (by decide)) (pa_cons (pv 0) (pa_cons pe_int pa_nil))) (pa_cons (pe_op op_sub pe_int (pe_op op_mulW pe_int (pe_has G_draw (hr.mono (by decide)) (pa_cons (pv 0) (pa_cons pe_int pa_nil))))) pa_nil)) (by rfl))
    (pss_cons (ps_if (pt_cmpR op_eq (pv 1) pe_int (nomark _))
      (pss_one (ps_ret pe_int))
      pss_nil)
    (pss_cons (ps_if (pt_cmpR op_lt (pv 1) pe_int (nomark _))
      (pss_one (ps_ret (pe_op op_mulW (pv 2) (pe_has G_draw (hr.mono (by decide)) (pa_cons (pv 0) (pa_cons pe_int pa_nil))))))
      pss_nil)
    (pss_cons (ps_if (pt_cmpR op_eq (pv 1) pe_int (nomark _))
      (pss_one (ps_ret (pe_op op_mulW (pv 2) (pe_has G_draw (hr.mono (by decide)) (pa_cons (pv 0) (pa_cons pe_int pa_nil))))))
      pss_nil)
    (pss_one (ps_ret (pe_op op_mulW (pv 2) (pe_ifExp (pt_cmpR op_eq (pv 1) pe_int (nomark _)) (pe_op op_sub (pe_op op_pow pe_int pe_int) (pe_has G_draw (hr.mono (by decide)) (pa_cons (pv 0) (pa_cons pe_int pa_nil)))) (pe_has G_great (hr.mono (by decide)) (pa_cons (pv 0) (pa_cons (pe_op op_pow pe_int pe_int) pa_nil))))))))))), ?_⟩
    have lit : ∀ m : Int, 0 < m → m < 5000 → m.natAbs < 2 ^ 8000 := fun m h0 h1 => Nat.lt_of_lt_of_le (by omega : m.natAbs < 2 ^ 13) (Nat.pow_le_pow_right (by decide) (by decide))
    have s60 : Sz 200 ((10 : Int) ^ (60 : Int).toNat) := by unfold Sz; decide +kernel
    refine ⟨_, rfl, p, c, ns, B, 9, rfl, hP, by omega, by decide, lit _ (by decide) (by decide), fun way H1 w0 w1 P1 b1 => ?_⟩
    refine ⟨_, rfl, p, c, ns, B + 1, 2, rfl, P1, by omega, by decide, lit _ (by decide) (by decide), fun d H2 d0 d1 P2 b2 => ?_⟩
    refine ⟨2, d, rfl, rfl, Sz.mulOk (a := 2) (b := 2) (by unfold Sz; decide) (by unfold Sz; omega) (by decide), 1, _, rfl, rfl, _, _, rfl, ?_⟩
    have b2' := b1.trans b2
    refine ⟨_, rfl, rfl, _, rfl, ?_⟩
    refine ite2 (fun h1 => ?_) (fun h1 => ?_)
    · exact k 0 _ (by unfold Sz; decide +kernel) (P2.more (by omega) (by omega)) b2'
    refine ⟨_, rfl, _, _, rfl, rfl, _, rfl, ?_⟩
    refine ite2 (fun h2 => ?_) (fun h2 => ?_)
    · refine ⟨_, rfl, _, rfl, p, c, ns, B + 1 + 1, 9, rfl, P2, by omega, by decide, lit _ (by decide) (by decide), fun y H3 y0 y1 P3 b3 => ?_⟩
      have q := side_ok (y := y) d0 d1 (Sz.mono (a := 5) (by unfold Sz; omega) (by decide))
      exact ⟨_, _, rfl, rfl, q.1, k _ _ q.2 (P3.more (by omega) (by omega)) (b2'.trans b3)⟩
    refine ⟨_, rfl, rfl, _, rfl, ?_⟩
    refine ite2 (fun h3 => ?_) (fun h3 => ?_)
    · refine ⟨_, rfl, _, rfl, p, c, ns, B + 1 + 1, 3000, rfl, P2, by omega, by decide, lit _ (by decide) (by decide), fun y H3 y0 y1 P3 b3 => ?_⟩
      have q := side_ok (y := y) d0 d1 (Sz.mono (a := 15) (by unfold Sz; omega) (by decide))
      exact ⟨_, _, rfl, rfl, q.1, k _ _ q.2 (P3.more (by omega) (by omega)) (b2'.trans b3)⟩
    refine ⟨_, rfl, _, rfl, rfl, _, rfl, ?_⟩
    have e60 : (10 : Int) ^ (60 : Int).toNat < 2 ^ 200 := by decide +kernel
    have p60 : 3 < (10 : Int) ^ (60 : Int).toNat := by decide +kernel
    refine ite2 (fun h4 => ?_) (fun h4 => ?_)
    · refine ⟨10, 60, rfl, rfl, ⟨by decide, by decide, by decide⟩, _, rfl, p, c, ns, B + 1 + 1, 3, rfl, P2, by omega, by decide, lit _ (by decide) (by decide), fun y H3 y0 y1 P3 b3 => ?_⟩
      have q := side_ok (y := (10 : Int) ^ (60 : Int).toNat - y) d0 d1 (Nat.lt_of_le_of_lt (by omega : ((10 : Int) ^ (60 : Int).toNat - y).natAbs ≤ ((10 : Int) ^ (60 : Int).toNat).natAbs) s60)
      exact ⟨_, _, rfl, rfl, _, _, rfl, rfl, q.1, k _ _ q.2 (P3.more (by omega) (by omega)) (b2'.trans b3)⟩
    · refine ⟨_, rfl, 10, 60, rfl, rfl, ⟨by decide, by decide, by decide⟩, p, c, ns, B + 1 + 1, _, rfl, P2, by omega, by omega, s60.mono (by decide), fun y H3 y0 y1 P3 b3 => ?_⟩
      have q := side_ok (y := y) d0 d1 (Nat.lt_of_le_of_lt (by omega : y.natAbs ≤ ((10 : Int) ^ (60 : Int).toNat).natAbs) s60)
      exact ⟨_, _, rfl, rfl, q.1, k _ _ q.2 (P3.more (by omega) (by omega)) (b2'.trans b3)⟩
end
end EN

namespace EN
open PySem L2 PyProof.Rows
section
variable {P : Program} {w : World} {K : PySem.W.Frag} {mg : Str → Option Value} {base : Heap} {f : Addr} {fd : FuncData}
abbrev s_great : Stmt := top 42
abbrev N_great : List Str := ["_law_pen_here", "_law_many", "_law_amount", "_law_size"]
theorem sc_great : FnScope N_great ["_law_pen_here", "_law_many"] (defScope s_great) := ⟨rfl, rfl, rfl, by decide +kernel, rfl, by decide +kernel, by decide +kernel⟩

theorem ok_great (F : Fun K "_law_great" "_law_great" s_great f fd) (T : Blt mg) (G_draw : Has P w K mg base 1 "_law_draw" ["_law_pen_here", "_law_many"] spDraw) : FnOk P w K mg base CX0 2 f fd ["_law_pen_here", "_law_many"] spGreat := by
  refine F.ok sc_great (fun vs H Q E h => ?_) (fun cdv A outer s H vs Q E hr h => ?_)
  · obtain ⟨p, c, ns, B, m, rfl, _⟩ := h
    rfl
  · obtain ⟨p, c, ns, B, m, rfl, hP, hB, hm, hs, k⟩ := h
    refine ⟨_, (pss_cons (ps_asg (pe_tup (pa_cons pe_int (pa_cons pe_int pa_nil))) (pg_tup rfl (pgs_cons (pg_name (i := 2) sc_great.nd rfl (Or.inl rfl)) (pgs_cons (pg_name (i := 3) sc_great.nd rfl (Or.inl rfl)) pgs_nil))))
    (pss_cons (ps_while PassesOwn.never (pt_cmpR op_lt (pv 3) (pv 1) (nomark _))
      (pss_one (ps_par (i := 2) (j := 3) (by rfl) sc_great.nd rfl rfl (by decide) rfl rfl (pa_cons (pe_op op_add (pe_op op_mulW (pv 2) (pe_op op_pow pe_int pe_int)) (pe_has G_draw (hr.mono (by decide)) (pa_cons (pv 0) (pa_cons (pe_op op_pow pe_int pe_int) pa_nil)))) (pa_cons (pe_op op_mulW (pv 3) (pe_op op_pow pe_int pe_int)) pa_nil)) (by rfl))))
    (pss_one (ps_ret (pe_op op_mod (pe_callTy call_int1 (by rfl) T.int_ (by decide +kernel) (pa_cons (pv 2) pa_nil)) (pv 1)))))), ?_⟩
    refine ⟨(by show 2 ≤ sizeLine; decide), fun t ht => ⟨t, _, rfl, SqT.of upd_same, rfl, _, _, rfl, _, _, rfl, rfl, ?_⟩⟩
    have hP0 : Pen (upd H t (.tup [.int 0, .int 1])) p c ns B := hP.new ht
    have hb0 : But p H (upd H t (.tup [.int 0, .int 1])) := (But.refl _ _).new _ ht
    generalize upd H t (.tup [.int 0, .int 1]) = H0 at hP0 hb0
    -- at most ten turns
    have lim : ∀ j : Nat, ((1000000000 ^ j : Nat) : Int) < m → j ≤ 10 := fun j h => by
      by_cases q : j ≤ 10
      · exact q
      · exfalso
        have h2 : 1000000000 ^ 11 ≤ 1000000000 ^ j := Nat.pow_le_pow_right (by decide) (by omega)
        have h5 : 2 ^ 300 ≤ 1000000000 ^ 11 := by decide +kernel
        have h6 : m.natAbs < 1000000000 ^ j := Nat.lt_of_lt_of_le hs (Nat.le_trans h5 h2)
        omega
    let W : Nat → L2.St → Hp → Prop := fun n σ H' => ∃ (i : Nat) (a z : Int), σ = [some (.ref p), some (.int m), some (.int a), some (.int z)] ∧ n = (m - z).toNat ∧ 0 ≤ a ∧ a < z ∧ z = ((1000000000 ^ i : Nat) : Int) ∧ (i = 0 ∨ ((1000000000 ^ (i - 1) : Nat) : Int) < m) ∧ Pen H' p c ns (B + i) ∧ But p H H'
    refine ⟨W, ⟨_, 0, 0, 1, rfl, rfl, by decide, by decide, rfl, .inl rfl, hP0, hb0⟩, ?_⟩
    rintro n σ H' ⟨i, a, z, rfl, rfl, ha, haz, hz, hi, hP', hb⟩
    refine ⟨_, rfl, _, rfl, _, _, rfl, rfl, _, rfl, ?_⟩
    refine ite2 (fun h1 => ?_) (fun h1 => ?_)
    · have h2 : z < m := of_decide_eq_true h1
      have hi10 := lim i (by rw [← hz]; exact h2)
      have sm : Sz 300 z := Nat.lt_of_le_of_lt (by omega : z.natAbs ≤ m.natAbs) hs
      have sa : Sz 300 a := Nat.lt_of_le_of_lt (by omega : a.natAbs ≤ m.natAbs) hs
      have s9 : Sz 30 ((10 : Int) ^ (9 : Int).toNat) := by unfold Sz; decide
      refine ⟨fun σ' H' => ∃ n', n' < (m - z).toNat ∧ W n' σ' H', fun σ' H' h => h, ?_⟩
      refine ⟨_, rfl, 10, 9, rfl, rfl, ⟨by decide, by decide, by decide⟩, _, _, rfl, rfl, sa.mulOk s9 (by decide), _, rfl, 10, 9, rfl, rfl, ⟨by decide, by decide, by decide⟩, ?_⟩
      refine ⟨p, c, ns, B + i, (10 : Int) ^ (9 : Int).toNat, rfl, hP', by omega, by decide, Nat.lt_of_lt_of_le s9 (Nat.pow_le_pow_right (by decide) (by decide)), fun d H1 d0 d1 P1 s1 => ?_⟩
      refine ⟨_, _, rfl, rfl, _, rfl, 10, 9, rfl, rfl, ⟨by decide, by decide, by decide⟩, _, _, rfl, rfl, sm.mulOk s9 (by decide), _, _, rfl, ?_⟩
      have e9 : (10 : Int) ^ (9 : Int).toNat = 1000000000 := by decide
      rw [e9] at d1 ⊢
      have zpos : 0 < z := by omega
      refine ⟨(m - z * 1000000000).toNat, by omega, i + 1, a * 1000000000 + d, z * 1000000000, rfl, rfl, by omega, by omega, ?_, .inr (by rw [Nat.add_sub_cancel, ← hz]; exact h2), P1, hb.trans s1⟩
      rw [Nat.pow_succ, hz]
      omega
    · refine ⟨_, rfl, .inl ⟨_, rfl, _, rfl, _, _, rfl, rfl, hm, ?_⟩⟩
      have hi20 : i ≤ 20 := by
        rcases hi with h | h
        · omega
        · have := lim _ h
          omega
      exact k _ _ (Int.emod_nonneg _ (by omega)) (Int.emod_lt_of_pos _ hm) (hP'.more (by omega) (by omega)) hb
end
end EN

namespace EN
open PySem L2 PyProof.Rows
section
variable {P : Program} {w : World} {K : PySem.W.Frag} {mg : Str → Option Value} {base : Heap} {f : Addr} {fd : FuncData}
abbrev s_lwhole : Stmt := top 41
abbrev N_lwhole : List Str := ["_law_value"]
theorem sc_lwhole : FnScope N_lwhole ["_law_value"] (defScope s_lwhole) := ⟨rfl, rfl, rfl, by decide +kernel, rfl, by decide +kernel, by decide +kernel⟩

theorem ok_lwhole (F : Fun K "_law_whole" "_law_whole" s_lwhole f fd) (T : Blt mg) : FnOk P w K mg base CX0 1 f fd ["_law_value"] spWhole := by
  refine F.ok sc_lwhole (fun vs H Q E h => ?_) (fun cdv A outer s H vs Q E hr h => ?_)
  · obtain ⟨i, rfl, _⟩ := h
    rfl
  · obtain ⟨i, rfl, k⟩ := h
    refine ⟨_, (pss_one (ps_ret (pe_and (pe_callB (show CallR _ _ (rIsi K) from call_isi) (by rfl) T.isinstance_ (by decide +kernel) (pa_cons (pv 0) (pa_cons (pe_bltn (v := .ty "int") (u := .type "int") (by rfl) T.int_ (by decide +kernel) rfl) pa_nil))) (pe_one (pe_not (pe_callB (show CallR _ _ (rIsi K) from call_isi) (by rfl) T.isinstance_ (by decide +kernel) (pa_cons (pv 0) (pa_cons (pe_bltn (v := .ty "bool") (u := .type "bool") (by rfl) T.bool_ (by decide +kernel) rfl) pa_nil)))))))), ?_⟩
    refine ⟨_, rfl, .int i, .ty "int", .type "int", .type "int", true, rfl, .ty _, .base (.int _), kit_ty (by decide +kernel), true, rfl, iteT ?_⟩
    refine ⟨_, rfl, .int i, .ty "bool", .type "int", .type "bool", false, rfl, .ty _, .base (.int _), kit_ty (by decide +kernel), false, rfl, k⟩
end
end EN

namespace EN
open PySem L2 PyProof.Rows
section
variable {P : Program} {w : World} {K : PySem.W.Frag} {mg : Str → Option Value} {base : Heap} {f : Addr} {fd : FuncData}
def spRow : Sp := fun vs H Q _ => ∃ (p c : Addr) (ns : List Int) (B : Nat) (m : Int), vs = [.ref p, .int m] ∧ Pen H p c ns B ∧ 0 < m ∧ m ≤ 10 ∧ B + 500 ≤ 1000000000 ∧
  ∀ (l : Addr) (r : List Int) (H' : Hp), r.length ≤ m → (∀ x ∈ r, Sz 200 x) → Pen H' p c ns (B + 500) → But p H H' → H l = none → H' l = some (.lst (r.map V.int)) → Q (.ref l) H'
def spSizeIs (K : PySem.W.Frag) (C : Addr) : Sp := fun vs H Q _ => ∃ (s u : Addr) (ms : List Int), vs = [.ref s, .ref u] ∧ SizeAt K C H s ms ∧ SqT K H u (ms.map V.int) ∧ ∀ H' : Hp, Same H H' → Q (.bl true) H'
theorem ints_of {P : Int → Prop} : ∀ acc : List V, (∀ (i : Nat) (y : V), acc[i]? = some y → ∃ z, y = V.int z ∧ P z) → ∃ zs : List Int, acc = zs.map V.int ∧ ∀ z ∈ zs, P z
  | [], _ => ⟨[], rfl, fun z h => by simp at h⟩
  | a :: r, h => by
    obtain ⟨z, rfl, hz⟩ := h 0 a rfl
    obtain ⟨zs, rfl, hzs⟩ := ints_of r fun i y e => h (i + 1) y (by simpa using e)
    refine ⟨z :: zs, rfl, fun x hx => ?_⟩
    rcases List.mem_cons.mp hx with e | e
    · rw [e]; exact hz
    · exact hzs x e
abbrev s_lrow : Stmt := top 48
abbrev N_lrow : List Str := ["_law_pen_here", "_law_most", "_law_k"]
theorem sc_lrow : FnScope N_lrow ["_law_pen_here", "_law_most"] (defScope s_lrow) := ⟨rfl, rfl, rfl, by decide +kernel, rfl, by decide +kernel, by decide +kernel⟩

theorem ok_lrow (F : Fun K "_law_row" "_law_row" s_lrow f fd) (T : Blt mg) (G_draw : Has P w K mg base 1 "_law_draw" ["_law_pen_here", "_law_many"] spDraw) (G_integer : Has P w K mg base 3 "_law_integer" ["_law_pen_here"] spInteger) : FnOk P w K mg base CX0 4 f fd ["_law_pen_here", "_law_most"] spRow := by
  refine F.ok sc_lrow (fun vs H Q E h => ?_) (fun cdv A outer s H vs Q E hr h => ?_)
  · obtain ⟨p, c, ns, B, m, rfl, _⟩ := h
    rfl
  · obtain ⟨p, c, ns, B, m, rfl, hP, hm, hm10, hB, k⟩ := h
    refine ⟨_, (pss_one (ps_ret (pe_op op_cat (pe_lc (own := [("_law_k", 2)]) (g := gName 2) (tt := tYes) (by rfl) sc_lrow.nd (pi_range1 (by rfl) T.range_ (pa_cons (pe_has G_draw (hr.mono (by decide)) (pa_cons (pv 0) (pa_cons (pv 1) pa_nil))) pa_nil)) (blkOk_by (own := [("_law_k", 2)]) (N := N_lrow) (sc := defScope s_lrow) (by decide +kernel)) (fun _ _ _ _ _ => (pg_name (i := 2) sc_lrow.nd rfl (by first | exact Or.inl rfl | exact Or.inr rfl))) (fun _ _ _ _ _ => pts_nil) (fun _ _ _ _ _ => (pe_has G_integer (hr.mono (by decide)) (pa_cons (pv 0) pa_nil)))) (pe_op op_rep (pe_lst (pa_cons pe_int pa_nil)) (pe_op op_fdivW (pe_has G_draw (hr.mono (by decide)) (pa_cons (pv 0) (pa_cons pe_int pa_nil))) pe_int))))), ?_⟩
    have lit : ∀ m : Int, 0 < m → m < 5000 → m.natAbs < 2 ^ 8000 := fun m h0 h1 => Nat.lt_of_lt_of_le (by omega : m.natAbs < 2 ^ 13) (Nat.pow_le_pow_right (by decide) (by decide))
    refine ⟨_, rfl, _, rfl, p, c, ns, B, m, rfl, hP, by omega, hm, lit _ hm (by omega), fun d H1 d0 d1 P1 b1 => ⟨d, rfl, by omega, by omega, fun D hD => ?_⟩⟩
    obtain ⟨n, rfl⟩ := Int.eq_ofNat_of_zero_le d0
    have nDp := P1.nep hD
    have nDc := P1.nec hD
    rw [show (n : Int).toNat = n by omega]
    refine ZK.lc_growR n (small1000 (by omega)) (fun i H' => Pen H' p c ns (B + 1 + 30 * i) ∧ But p H1 H') (fun i y => ∃ z, y = V.int z ∧ Sz 200 z) ⟨P1.new hD, (But.refl _ _).new _ hD⟩ ?_ ?_
    · rintro i H2 acc hi ⟨P2, b2⟩ hacc hal hR Qn hq
      refine ⟨rfl, _, rfl, p, c, ns, B + 1 + 30 * i, rfl, P2, by omega, fun z H3 hz P3 b3 => hq _ _ ⟨z, rfl, hz⟩ (b3 _ _ hacc nDp) ⟨?_, but_new (b2.trans b3) hD⟩⟩
      exact (P3.stay (upd_ne nDp.symm) (upd_ne nDc.symm)).more (by omega) (by omega)
    · rintro H2 acc ⟨P2, b2⟩ hacc hal hR
      obtain ⟨zs, rfl, hzs⟩ := ints_of acc fun i y e => hR i y e
      rw [List.length_map] at hal
      refine ⟨(by show 1 ≤ sizeLine; decide), fun e he => ?_⟩
      have P2e := P2.new (u := .lst [.int 0]) he
      have hacce : (upd H2 e (.lst [.int 0])) D = some (.lst (zs.map V.int)) := by rw [upd_ne (ne_of_none hacc he)]; exact hacc
      have he2 : (upd H2 e (.lst [.int 0])) e = some (.lst [.int 0]) := upd_same
      have b2e : But p H (upd H2 e (.lst [.int 0])) := (b1.trans b2).new _ he
      generalize upd H2 e (.lst [.int 0]) = H3 at P2e hacce he2 b2e
      have nep : e ≠ p := by
        intro z
        obtain ⟨b, r, q, _⟩ := P2e.at_
        rw [← z, he2] at q
        cases q
      refine ⟨_, rfl, p, c, ns, B + 1 + 30 * n, 4, rfl, P2e, by omega, by decide, lit _ (by decide) (by decide), fun d2 H4 e0 e1 P4 b4 => ?_⟩
      have h4e := b4 _ _ he2 nep
      have h4D := b4 _ _ hacce nDp
      refine ⟨_, _, rfl, rfl, divW 3 (by decide) (by decide) (by decide), e, _, _, rfl, rfl, h4e, by omega, by omega, ?_, fun u hu => ?_⟩
      · have : (d2 / 2).toNat ≤ 1 := by omega
        show 1 * (d2 / 2).toNat ≤ sizeLine
        exact Nat.le_trans (by omega) (show 1 ≤ sizeLine by decide)
      have fl : (List.replicate (d2 / 2).toNat [V.int 0]).flatten = (List.replicate (d2 / 2).toNat (0 : Int)).map V.int := by
        have : (d2 / 2).toNat = 0 ∨ (d2 / 2).toNat = 1 := by omega
        rcases this with q | q <;> rw [q] <;> rfl
      rw [fl]
      have nuD : D ≠ u := ne_of_none h4D hu
      refine ⟨D, u, _, _, rfl, rfl, (by rw [upd_ne nuD]; exact h4D), upd_same, ?_, fun v hv => ?_⟩
      · rw [List.length_map, List.length_map, List.length_replicate]
        exact Nat.le_of_lt (small1000 (by omega))
      rw [← List.map_append]
      have b5 := ((b2e.trans b4).new _ hu).new (.lst ((zs ++ List.replicate (d2 / 2).toNat (0 : Int)).map V.int)) hv
      refine k v _ _ ?_ ?_ (((P4.new hu).new hv).more (by omega) (by omega)) b5 ?_ upd_same
      · rw [List.length_append, List.length_replicate]
        omega
      · intro x hx
        rcases List.mem_append.mp hx with z | z
        · exact hzs x z
        · rw [List.eq_of_mem_replicate z]
          unfold Sz; decide +kernel
      · cases q : H v with
        | none => rfl
        | some o =>
          exfalso
          by_cases hvp : v = p
          · obtain ⟨b, r, q2, _⟩ := (P4.new (u := .lst ((List.replicate (d2 / 2).toNat (0 : Int)).map V.int)) hu).at_
            rw [← hvp, hv] at q2
            cases q2
          · have := ((b2e.trans b4).new (.lst ((List.replicate (d2 / 2).toNat (0 : Int)).map V.int)) hu) v o q hvp
            rw [hv] at this
            cases this
abbrev s_sizeis : Stmt := top 51
abbrev N_sizeis : List Str := ["_law_size", "_law_row_here", "_law_told", "_law_amount"]
theorem sc_sizeis : FnScope N_sizeis ["_law_size", "_law_row_here"] (defScope s_sizeis) := ⟨rfl, rfl, rfl, by decide +kernel, rfl, by decide +kernel, by decide +kernel⟩

theorem ok_sizeis {C : Addr} (F : Fun K "_law_size_is" "_law_size_is" s_sizeis f fd) (T : Blt mg) (cl : Cls K C) (nR : NoAttr K C "row") (G_lwhole : Has P w K mg base 1 "_law_whole" ["_law_value"] spWhole) : FnOk P w K mg base CX0 2 f fd ["_law_size", "_law_row_here"] (spSizeIs K C) := by
  refine F.ok sc_sizeis (fun vs H Q E h => ?_) (fun cdv A outer s H vs Q E hr h => ?_)
  · obtain ⟨s, u, ms, rfl, _⟩ := h
    rfl
  · obtain ⟨z, u, ms, rfl, ⟨dx, t, h1, h2, h3⟩, hu, k⟩ := h
    refine ⟨_, (pss_cons (ps_set (i := 2) sc_sizeis.nd rfl (Or.inl rfl) (pe_fld (pv 0) rfl))
    (pss_one (ps_ret (pe_and (pe_callB (show CallR _ _ (rIsi K) from call_isi) (by rfl) T.isinstance_ (by decide +kernel) (pa_cons (pv 2) (pa_cons (pe_bltn (v := .ty "tuple") (u := .type "tuple") (by rfl) T.tuple_ (by decide +kernel) rfl) pa_nil))) (pe_and (pe_cmpR (show OpR _ _ (rEqD K) from op_eqD hr.units) (pv 2) (pv 1) (nomark _)) (pe_one (pe_callB (show CallR _ _ (rAll K) from cr_all rfl) (by rfl) T.all_ (by decide +kernel) (pa_cons (pe_lc (own := [("_law_amount", 3)]) (g := gName 3) (tt := tYes) (by rfl) sc_sizeis.nd (pi_tup (pv 2)) (blkOk_by (own := [("_law_amount", 3)]) (N := N_sizeis) (sc := defScope s_sizeis) (by decide +kernel)) (fun _ _ _ _ _ => (pg_name (i := 3) sc_sizeis.nd rfl (by first | exact Or.inl rfl | exact Or.inr rfl))) (fun _ _ _ _ _ => pts_nil) (fun _ _ _ _ _ => (pe_has G_lwhole (hr.mono (by decide)) (pa_cons (pv 3) pa_nil)))) pa_nil)))))))), ?_⟩
    refine ⟨_, rfl, z, C, dx, _, _, rfl, h1, cl, nR, look1, ?_⟩
    refine ⟨_, rfl, .ref t, .ty "tuple", .type "tuple", .type "tuple", true, rfl, .ty _, tyx_tup h2, kit_ty (by decide +kernel), true, rfl, iteT ?_⟩
    refine ⟨_, rfl, _, rfl, _, _, dp_tup h2, dp_tup hu, shaped_tup _, shaped_tup _, true, ?_, iteT ?_⟩
    · rw [eqv_tup, decide_eq_true rfl]
    refine ⟨_, rfl, t, rfl, ⟨_, h2⟩, fun D hD => ?_⟩
    refine ZK.lc_growT (K := K) (a := t) (xs := ms.map V.int) (small1000 (by rw [List.length_map]; exact h3)) (fun _ H' => Same H H') (fun i y => y = .bl true) (same_new (Same.refl _) _ hD) (fun i H' s' => sqT_same s' h2) ?_ ?_
    · intro i x H1 acc hx s1 hacc hal hR Qn hq
      obtain ⟨j, rfl⟩ : ∃ j, x = V.int j := by
        rw [List.getElem?_map] at hx
        cases e : ms[i]? with
        | none => rw [e] at hx; cases hx
        | some j => rw [e] at hx; exact ⟨j, (Option.some.inj hx).symm⟩
      exact ⟨rfl, _, rfl, j, rfl, hq _ _ rfl hacc (same_but_new s1 hD)⟩
    · intro H1 acc s1 hacc hal hR
      have e := ZK.eq_map hal hR
      refine ⟨D, (List.range ms.length).map fun _ => true, rfl, SqL.of ?_, ?_⟩
      · rw [hacc, e, List.length_map, List.map_map]
        rfl
      · have : ((List.range ms.length).map fun _ => true).all id = true := by simp
        rw [this]
        exact k _ s1
abbrev s_lplus : Stmt := top 49
abbrev N_lplus : List Str := ["_law_one", "_law_two", "_law_many", "_law_first", "_law_second", "_law_k"]
theorem sc_lplus : FnScope N_lplus ["_law_one", "_law_two"] (defScope s_lplus) := ⟨rfl, rfl, rfl, by decide +kernel, rfl, by decide +kernel, by decide +kernel⟩

def spLPlus (K : PySem.W.Frag) : Sp := fun vs H Q _ => ∃ (a a' : Addr) (r s : List Int), vs = [.ref a, .ref a'] ∧ SeqI K H a r ∧ SeqI K H a' s ∧ r.length ≤ 300 ∧ s.length ≤ 300 ∧ ∀ (t : Addr) (R : List Int) (H' : Hp), Same H H' → SqT K H' t ((M.cut R).map V.int) → R.length = max r.length s.length → (∀ n, M.val R n = M.val r n + M.val s n) → Q (.ref t) H'
/-- list(x) + [0] * m -/
theorem padL {i j : Nat} {σ : L2.St} {H : Hp} {a : Addr} {r : List Int} {m : Nat} {Q : VK} (h1 : σ[i]? = some (some (.ref a))) (h2 : σ[j]? = some (some (.int (m : Int)))) (hS : SeqI K H a r) (hm : r.length + m ≤ 1000)
    (k : ∀ (d : Addr) (H' : Hp), Same H H' → H d = none → H' d = some (.lst ((r ++ List.replicate m 0).map V.int)) → Q (.ref d) H') :
    tOp rCat (tCB (rListQ K) (tCons (tVar i) tNil)) (tOp rRep (tLst (tCons (tC (.int 0)) tNil)) (tVar j)) σ H Q := by
  refine ⟨_, h1, a, _, rfl, hS, fun l hl => ?_⟩
  have s1 := same_new (Same.refl H) (.lst (r.map V.int)) hl
  refine ⟨(by show 1 ≤ sizeLine; decide), fun l2 hl2 => ?_⟩
  have s2 := same_new s1 (.lst [.int 0]) hl2
  have e1 := same_new (Same.refl _) (.lst [.int 0]) hl2 _ _ (show (upd H l (.lst (r.map V.int))) l = some (.lst (r.map V.int)) from upd_same)
  refine ⟨_, h2, l2, _, _, rfl, rfl, upd_same, by omega, by omega, ?_, fun l3 hl3 => ?_⟩
  · show 1 * ((m : Int)).toNat ≤ sizeLine
    exact Nat.le_trans (by omega : 1 * ((m : Int)).toNat ≤ 1000) (Nat.le_of_lt (small1000 (Nat.le_refl _)))
  have er : (List.replicate ((m : Int)).toNat [V.int 0]).flatten = (List.replicate m (0 : Int)).map V.int := by
    rw [show ((m : Int)).toNat = m by omega]
    clear hm h2 hl3 k
    induction m with
    | zero => rfl
    | succ m ih => rw [List.replicate_succ, List.flatten_cons, ih, List.replicate_succ]; rfl
  rw [er]
  have s3 := same_new s2 (.lst ((List.replicate m (0 : Int)).map V.int)) hl3
  have e2 := same_new (Same.refl _) (.lst ((List.replicate m (0 : Int)).map V.int)) hl3 _ _ e1
  refine ⟨l, l3, _, _, rfl, rfl, e2, upd_same, ?_, fun l4 hl4 => ?_⟩
  · rw [List.length_map, List.length_map, List.length_replicate]
    exact Nat.le_of_lt (small1000 hm)
  rw [← List.map_append]
  exact k l4 _ (same_new s3 _ hl4) (s3.free hl4) upd_same
theorem ok_lplus (F : Fun K "_law_plus" "_law_plus" s_lplus f fd) (T : Blt mg) (G_cut : Has P w K mg base 1 "_law_cut" ["_law_row_here"] (spCut K)) : FnOk P w K mg base CX0 2 f fd ["_law_one", "_law_two"] (spLPlus K) := by
  refine F.ok sc_lplus (fun vs H Q E h => ?_) (fun cdv A outer s H vs Q E hr h => ?_)
  · obtain ⟨_, _, _, _, rfl, _⟩ := h
    rfl
  · obtain ⟨a, a', r, s', rfl, hS, hS', hl, hl', k⟩ := h
    refine ⟨_, (pss_cons (ps_set (i := 2) sc_lplus.nd rfl (Or.inl rfl) (pe_callB (call_max2 rfl) (by rfl) T.max_ (by decide +kernel) (pa_cons (pe_callB (show CallR _ _ (rLenQ K) from c_len) (by rfl) T.len_ (by decide +kernel) (pa_cons (pv 0) pa_nil)) (pa_cons (pe_callB (show CallR _ _ (rLenQ K) from c_len) (by rfl) T.len_ (by decide +kernel) (pa_cons (pv 1) pa_nil)) pa_nil))))
    (pss_cons (ps_asg (pe_tup (pa_cons (pe_op op_cat (pe_callTy (show CallR _ _ (rListQ K) from c_list) (by rfl) T.list_ (by decide +kernel) (pa_cons (pv 0) pa_nil)) (pe_op op_rep (pe_lst (pa_cons pe_int pa_nil)) (pv 2))) (pa_cons (pe_op op_cat (pe_callTy (show CallR _ _ (rListQ K) from c_list) (by rfl) T.list_ (by decide +kernel) (pa_cons (pv 1) pa_nil)) (pe_op op_rep (pe_lst (pa_cons pe_int pa_nil)) (pv 2))) pa_nil))) (pg_tup rfl (pgs_cons (pg_name (i := 3) sc_lplus.nd rfl (Or.inr rfl)) (pgs_cons (pg_name (i := 4) sc_lplus.nd rfl (Or.inr rfl)) pgs_nil))))
    (pss_one (ps_ret (pe_has G_cut (hr.mono (by decide)) (pa_cons (pe_lc (own := [("_law_k", 5)]) (g := gName 5) (tt := tYes) (by rfl) sc_lplus.nd (pi_range1 (by rfl) T.range_ (pa_cons (pv 2) pa_nil)) (blkOk_by (own := [("_law_k", 5)]) (N := N_lplus) (sc := defScope s_lplus) (by decide +kernel)) (fun _ _ _ _ _ => (pg_name (i := 5) sc_lplus.nd rfl (by first | exact Or.inl rfl | exact Or.inr rfl))) (fun _ _ _ _ _ => pts_nil) (fun _ _ _ _ _ => (pe_op op_add (pe_ix (show IxR _ (rIxL K) from ix_list) (pv 3) (pv 5) (fun _ _ => rfl)) (pe_ix (show IxR _ (rIxL K) from ix_list) (pv 4) (pv 5) (fun _ _ => rfl))))) pa_nil)))))), ?_⟩
    refine ⟨_, rfl, a, _, rfl, hS, _, rfl, a', _, rfl, hS', _, _, rfl, ?_⟩
    obtain ⟨m, hm⟩ : ∃ m : Nat, m = max r.length s'.length := ⟨_, rfl⟩
    have em : (if ((s'.map V.int).length : Int) > ((r.map V.int).length : Int) then ((s'.map V.int).length : Int) else ((r.map V.int).length : Int)) = (m : Int) := by
      rw [List.length_map, List.length_map]
      split <;> omega
    rw [em]
    refine padL rfl rfl hS (by omega) fun d1 H1 s1 nd1 h1 => ?_
    refine padL rfl rfl (SeqI.same s1 hS') (by omega) fun d2 H2 s2 nd2 h2 => ?_
    refine ⟨(by show 2 ≤ sizeLine; decide), fun t ht => ⟨t, _, rfl, SqT.of upd_same, rfl, _, _, rfl, _, _, rfl, rfl, ?_⟩⟩
    have st := same_new (Same.refl H2) (.tup [.ref d1, .ref d2]) ht
    have g1 := st _ _ (s2 _ _ h1)
    have g2 := st _ _ h2
    generalize upd H2 t (.tup [.ref d1, .ref d2]) = H3 at st g1 g2 ⊢
    refine ⟨_, rfl, (m : Int), rfl, by omega, by omega, fun D hD => ?_⟩
    rw [show ((m : Int)).toNat = m by omega]
    refine ZK.lc_growR m (small1000 (by omega)) (fun _ H' => Same H3 H') (fun i y => y = .int ((r ++ List.replicate m 0).getD i 0 + (s' ++ List.replicate m 0).getD i 0)) (same_new (Same.refl _) _ hD) ?_ ?_
    · intro i H4 acc hi s4 hacc hal hR Qn hq
      rw [Int.zero_add]
      have a1 := (get_int (r := r ++ List.replicate m 0) (e := i) (by rw [List.length_append, List.length_replicate]; omega)).1
      have a2 := (get_int (r := s' ++ List.replicate m 0) (e := i) (by rw [List.length_append, List.length_replicate]; omega)).1
      exact ⟨rfl, _, rfl, _, rfl, d1, _, _, _, rfl, rfl, SqL.of (s4 _ _ g1), at_of (by omega) a1, _, rfl, _, rfl, d2, _, _, _, rfl, rfl, SqL.of (s4 _ _ g2), at_of (by omega) a2, _, _, rfl, rfl, hq _ _ rfl hacc (same_but_new s4 hD)⟩
    · intro H4 acc s4 hacc hal hR
      have e := ZK.eq_map hal hR
      have s34 := ((s1.trans s2).trans st).trans s4
      refine ⟨D, (List.range m).map (fun i => (r ++ List.replicate m 0).getD i 0 + (s' ++ List.replicate m 0).getD i 0), rfl, .inl (SqL.of (by rw [hacc, e, List.map_map]; rfl)), by rw [List.length_map, List.length_range]; omega, fun t2 H5 s5 ht2 => k t2 _ H5 (s34.trans s5) ht2 (by rw [List.length_map, List.length_range]; exact hm) fun n => ?_⟩
      rw [M.val_range, M.val_upto n r (m := m) (by omega), M.val_upto n s' (m := m) (by omega), ← M.sum_add]
      congr 1
      refine List.map_congr_left fun i _ => ?_
      have pad : ∀ l : List Int, (l ++ List.replicate m 0).getD i 0 = l.getD i 0 := fun l => by
        rw [List.getD_eq_getElem?_getD, List.getD_eq_getElem?_getD]
        by_cases h : i < l.length
        · rw [List.getElem?_append_left h]
        · rw [List.getElem?_append_right (by omega), List.getElem?_eq_none (l := l) (by omega), List.getElem?_replicate]
          split <;> rfl
      rw [pad, pad, Int.add_mul]
abbrev s_ltimes : Stmt := top 50
abbrev N_ltimes : List Str := ["_law_one", "_law_two", "_law_n"]
theorem sc_ltimes : FnScope N_ltimes ["_law_one", "_law_two"] (defScope s_ltimes) := ⟨rfl, rfl, rfl, by decide +kernel, rfl, by decide +kernel, by decide +kernel⟩

def spLTimes (K : PySem.W.Frag) : Sp := fun vs H Q _ => ∃ (a a' : Addr) (r s : List Int) (c : Nat), vs = [.ref a, .ref a'] ∧ SeqI K H a r ∧ SeqI K H a' s ∧ r.length ≤ 16 ∧ s.length ≤ 16 ∧ SzA c r ∧ SzA c s ∧ c ≤ 200000 ∧ ∀ (t : Addr) (R : List Int) (H' : Hp), Same H H' → SqT K H' t ((M.cut R).map V.int) → R.length = r.length + s.length → SzA (2 * c + 400) R → (∀ n, M.val R n = M.val r n * M.val s n) → Q (.ref t) H'
theorem ok_ltimes (F : Fun K "_law_times" "_law_times" s_ltimes f fd) (T : Blt mg) (G_lrowof : Has P w K mg base 2 "_law_row_of" ["_law_amounts"] (spRowOf K)) (G_lat : Has P w K mg base 2 "_law_at" ["_law_row_here", "_law_n"] (spAt K)) : FnOk P w K mg base CX0 3 f fd ["_law_one", "_law_two"] (spLTimes K) := by
  refine F.ok sc_ltimes (fun vs H Q E h => ?_) (fun cdv A outer s H vs Q E hr h => ?_)
  · obtain ⟨_, _, _, _, _, rfl, _⟩ := h
    rfl
  · obtain ⟨a, a', r, s', c, rfl, hS, hS', hl, hl', hx, hx', hc, k⟩ := h
    refine ⟨_, (pss_one (ps_ret (pe_has G_lrowof (hr.mono (by decide)) (pa_cons (pe_lc (own := [("_law_n", 2)]) (g := gName 2) (tt := tYes) (by rfl) sc_ltimes.nd (pi_range1 (by rfl) T.range_ (pa_cons (pe_op op_add (pe_callB (show CallR _ _ (rLenQ K) from c_len) (by rfl) T.len_ (by decide +kernel) (pa_cons (pv 0) pa_nil)) (pe_callB (show CallR _ _ (rLenQ K) from c_len) (by rfl) T.len_ (by decide +kernel) (pa_cons (pv 1) pa_nil))) pa_nil)) (blkOk_by (own := [("_law_n", 2)]) (N := N_ltimes) (sc := defScope s_ltimes) (by decide +kernel)) (fun _ _ _ _ _ => (pg_name (i := 2) sc_ltimes.nd rfl (by first | exact Or.inl rfl | exact Or.inr rfl))) (fun _ _ _ _ _ => pts_nil) (fun _ _ _ _ _ => (pe_op op_mulW (pe_has G_lat (hr.mono (by decide)) (pa_cons (pv 0) (pa_cons (pv 2) pa_nil))) (pe_has G_lat (hr.mono (by decide)) (pa_cons (pv 1) (pa_cons (pv 2) pa_nil)))))) pa_nil)))), ?_⟩
    refine ⟨_, rfl, a, _, rfl, hS, _, rfl, a', _, rfl, hS', _, _, rfl, rfl, ?_⟩
    rw [List.length_map, List.length_map]
    refine ⟨((r.length + s'.length : Nat) : Int), rfl, by omega, by omega, fun D hD => ?_⟩
    rw [show (((r.length + s'.length : Nat) : Int)).toNat = r.length + s'.length by omega]
    have hv : ∀ i : Nat, i < r.length + s'.length → Sz 6 ((i : Int)) := fun i hi => by unfold Sz; omega
    refine ZK.lc_growR (r.length + s'.length) (small1000 (by omega)) (fun _ H' => Same H H') (fun i y => y = .int (M.val r (i : Int) * M.val s' (i : Int))) (same_new (Same.refl _) _ hD) ?_ ?_
    · intro i H1 acc hi s1 hacc hal hR Qn hq
      rw [Int.zero_add]
      have z1 := valb (c := c) (by decide) (hv i hi) hl hx
      have z2 := valb (c := c) (by decide) (hv i hi) hl' hx'
      refine ⟨rfl, _, rfl, _, rfl, a, r, (i : Int), 6, c, rfl, SeqI.same s1 hS, hl, hx, hc, by decide, by decide, hv i hi, fun H2 s2 => ?_⟩
      refine ⟨_, rfl, _, rfl, a', s', (i : Int), 6, c, rfl, SeqI.same s2 (SeqI.same s1 hS'), hl', hx', hc, by decide, by decide, hv i hi, fun H3 s3 => ?_⟩
      exact ⟨_, _, rfl, rfl, z1.mulOk z2 (by omega), hq _ _ rfl (s3 _ _ (s2 _ _ hacc)) (same_but_new ((s1.trans s2).trans s3) hD)⟩
    · intro H1 acc s1 hacc hal hR
      have e := ZK.eq_map hal hR
      refine ⟨D, M.vals (fun n => M.val r n * M.val s' n) (r.length + s'.length), rfl, .inl (SqL.of ?_), by rw [M.vals_len]; omega, fun t H2 s2 ht => k t _ H2 (s1.trans s2) ht (by rw [M.thr_len, M.vals_len]) ?_ (M.prod_law r s')⟩
      · rw [hacc, e]
        unfold M.vals
        rw [List.map_map]
        rfl
      · refine SzA.mono (a := (2 * c + 244) + (r.length + s'.length)) (fun x hx1 => thr_szb _ _ (2 * c + 244) (by rw [M.vals_len]) (fun y hy => ?_) x hx1) (by omega)
        obtain ⟨i, hi, rfl⟩ := List.mem_map.mp hy
        have hi := List.mem_range.mp hi
        exact ((valb (by decide) (hv i hi) hl hx).mul (valb (by decide) (hv i hi) hl' hx')).mono (by omega)
end
end EN

namespace EN
open PySem L2 PyProof.Rows
section
variable {P : Program} {w : World} {K : PySem.W.Frag} {mg : Str → Option Value} {base : Heap} {f : Addr} {fd : FuncData}
abbrev s_sneg : Stmt := inClass (top 36) 10
abbrev N_sneg : List Str := ["self"]
theorem sc_sneg : FnScope N_sneg ["self"] (defScope s_sneg) := ⟨rfl, rfl, rfl, by decide +kernel, rfl, by decide +kernel, by decide +kernel⟩

theorem ok_sneg {C_Size : Addr} (F : Fun K "__neg__" "Size.__neg__" s_sneg f fd) (T : Blt mg) (cl : Cls K C_Size) (nR : NoAttr K C_Size "row") (g_Size : mg "Size" = some (.ref C_Size)) (G_row_times : Has P w K mg base 1 "row_times" ["row", "factor"] (spRowTimes K)) (G_Size : MkH P w K mg base 3 C_Size [] (spSInit K C_Size)) : FnOk P w K mg base CX0 5 f fd ["self"] (spNeg K C_Size) := by
  refine F.ok sc_sneg (fun vs H Q E h => ?_) (fun cdv A outer s H vs Q E hr h => ?_)
  · obtain ⟨_, _, rfl, _⟩ := h
    rfl
  · obtain ⟨z, ms, rfl, ⟨dx, t, h1, h2, h3⟩, hl, hx, k⟩ := h
    refine ⟨_, (pss_one (ps_ret (pe_mkH G_Size (hr.mono (by decide)) (by rfl) g_Size (pa_cons (pe_has G_row_times (hr.mono (by decide)) (pa_cons (pe_fld (pv 0) rfl) (pa_cons (pe_un un_neg pe_int) pa_nil))) pa_nil)))), ?_⟩
    refine ⟨_, rfl, z, C_Size, dx, _, _, rfl, h1, cl, nR, look1, _, rfl, ?_⟩
    refine ⟨t, ms, -1, 800000, 1, rfl, .inr h2, hl, hx, (by unfold Sz; decide), by omega, fun l H1 s1 nl hl1 => ?_⟩
    refine made (.inl (SqL.of hl1)) (by rw [M.times_len]; omega) fun z2 H2 s2 nz hz => ?_
    exact k z2 H2 (s1.trans s2) (s1.free nz) hz
abbrev s_sadd : Stmt := inClass (top 36) 11
abbrev N_sadd : List Str := ["self", "other", "row"]
theorem sc_sadd : FnScope N_sadd ["self", "other"] (defScope s_sadd) := ⟨rfl, rfl, rfl, by decide +kernel, rfl, by decide +kernel, by decide +kernel⟩

theorem ok_sadd {C_Size : Addr} (F : Fun K "__add__" "Size.__add__" s_sadd f fd) (T : Blt mg) (cl : Cls K C_Size) (nR : NoAttr K C_Size "row") (g_Size : mg "Size" = some (.ref C_Size)) (G_row_of : Has P w K mg base 2 "row_of" ["value"] (spRowOfN K C_Size)) (G_row_sum : Has P w K mg base 2 "row_sum" ["row", "other"] (spRowSum K)) (G_Size : MkH P w K mg base 3 C_Size [] (spSInit K C_Size)) : FnOk P w K mg base CX0 5 f fd ["self", "other"] (spS2 K C_Size M.plus okAdd) := by
  refine F.ok sc_sadd (fun vs H Q E h => ?_) (fun cdv A outer s H vs Q E hr h => ?_)
  · obtain ⟨_, _, _, _, rfl, _⟩ := h
    rfl
  · obtain ⟨z, v, ms, ns, rfl, ⟨dx, t, h1, h2, h3⟩, hN, ⟨l1, l2⟩, k⟩ := h
    refine ⟨_, (pss_cons (ps_set (i := 2) sc_sadd.nd rfl (Or.inl rfl) (pe_has G_row_of (hr.mono (by decide)) (pa_cons (pv 1) pa_nil)))
    (pss_cons (ps_if (pt_cmpR op_isN (pv 2) pe_non (nomark _))
      (pss_one ps_never)
      pss_nil)
    (pss_one (ps_ret (pe_mkH G_Size (hr.mono (by decide)) (by rfl) g_Size (pa_cons (pe_has G_row_sum (hr.mono (by decide)) (pa_cons (pe_fld (pv 0) rfl) (pa_cons (pv 2) pa_nil))) pa_nil)))))), ?_⟩
    refine ⟨_, rfl, v, ns, rfl, hN, fun u H1 s1 hu => ?_⟩
    refine ⟨_, rfl, rfl, false, rfl, iteF ?_⟩
    refine ⟨_, rfl, z, C_Size, dx, _, _, rfl, s1 _ _ h1, cl, nR, look1, _, rfl, ?_⟩
    refine ⟨t, u, ms, ns, rfl, .inr (sqT_same s1 h2), .inr hu, l1, l2, fun l H2 s2 nl hl1 => ?_⟩
    refine made (.inl (SqL.of hl1)) (by rw [M.plus_len]; omega) fun z2 H3 s3 nz hz => ?_
    exact k z2 H3 ((s1.trans s2).trans s3) (s1.free (s2.free nz)) hz
abbrev s_ssub : Stmt := inClass (top 36) 13
abbrev N_ssub : List Str := ["self", "other", "row"]
theorem sc_ssub : FnScope N_ssub ["self", "other"] (defScope s_ssub) := ⟨rfl, rfl, rfl, by decide +kernel, rfl, by decide +kernel, by decide +kernel⟩

theorem ok_ssub {C_Size : Addr} (F : Fun K "__sub__" "Size.__sub__" s_ssub f fd) (T : Blt mg) (cl : Cls K C_Size) (nR : NoAttr K C_Size "row") (g_Size : mg "Size" = some (.ref C_Size)) (G_row_of : Has P w K mg base 2 "row_of" ["value"] (spRowOfN K C_Size)) (G_row_less : Has P w K mg base 3 "row_less" ["row", "other"] (spRowLess K)) (G_Size : MkH P w K mg base 3 C_Size [] (spSInit K C_Size)) : FnOk P w K mg base CX0 5 f fd ["self", "other"] (spS2 K C_Size M.less okSub) := by
  refine F.ok sc_ssub (fun vs H Q E h => ?_) (fun cdv A outer s H vs Q E hr h => ?_)
  · obtain ⟨_, _, _, _, rfl, _⟩ := h
    rfl
  · obtain ⟨z, v, ms, ns, rfl, ⟨dx, t, h1, h2, h3⟩, hN, ⟨l1, l2, hx⟩, k⟩ := h
    refine ⟨_, (pss_cons (ps_set (i := 2) sc_ssub.nd rfl (Or.inl rfl) (pe_has G_row_of (hr.mono (by decide)) (pa_cons (pv 1) pa_nil)))
    (pss_cons (ps_if (pt_cmpR op_isN (pv 2) pe_non (nomark _))
      (pss_one ps_never)
      pss_nil)
    (pss_one (ps_ret (pe_mkH G_Size (hr.mono (by decide)) (by rfl) g_Size (pa_cons (pe_has G_row_less (hr.mono (by decide)) (pa_cons (pe_fld (pv 0) rfl) (pa_cons (pv 2) pa_nil))) pa_nil)))))), ?_⟩
    refine ⟨_, rfl, v, ns, rfl, hN, fun u H1 s1 hu => ?_⟩
    refine ⟨_, rfl, rfl, false, rfl, iteF ?_⟩
    refine ⟨_, rfl, z, C_Size, dx, _, _, rfl, s1 _ _ h1, cl, nR, look1, _, rfl, ?_⟩
    refine ⟨t, u, ms, ns, 800000, rfl, .inr (sqT_same s1 h2), .inr hu, l1, l2, hx, Nat.le_refl _, fun l H2 s2 nl hl1 => ?_⟩
    refine made (.inl (SqL.of hl1)) (by rw [M.less_len]; omega) fun z2 H3 s3 nz hz => ?_
    exact k z2 H3 ((s1.trans s2).trans s3) (s1.free (s2.free nz)) hz
abbrev s_smul : Stmt := inClass (top 36) 15
abbrev N_smul : List Str := ["self", "other", "row"]
theorem sc_smul : FnScope N_smul ["self", "other"] (defScope s_smul) := ⟨rfl, rfl, rfl, by decide +kernel, rfl, by decide +kernel, by decide +kernel⟩

theorem ok_smul {C_Size : Addr} (F : Fun K "__mul__" "Size.__mul__" s_smul f fd) (T : Blt mg) (cl : Cls K C_Size) (nR : NoAttr K C_Size "row") (g_Size : mg "Size" = some (.ref C_Size)) (G_row_of : Has P w K mg base 2 "row_of" ["value"] (spRowOfN K C_Size)) (G_row_product : Has P w K mg base 3 "row_product" ["row", "other"] (spRowProd K)) (G_Size : MkH P w K mg base 3 C_Size [] (spSInit K C_Size)) : FnOk P w K mg base CX0 5 f fd ["self", "other"] (spS2 K C_Size M.prod okMul) := by
  refine F.ok sc_smul (fun vs H Q E h => ?_) (fun cdv A outer s H vs Q E hr h => ?_)
  · obtain ⟨_, _, _, _, rfl, _⟩ := h
    rfl
  · obtain ⟨z, v, ms, ns, rfl, ⟨dx, t, h1, h2, h3⟩, hN, ⟨l1, l2, hx, hy⟩, k⟩ := h
    refine ⟨_, (pss_cons (ps_set (i := 2) sc_smul.nd rfl (Or.inl rfl) (pe_has G_row_of (hr.mono (by decide)) (pa_cons (pv 1) pa_nil)))
    (pss_cons (ps_if (pt_cmpR op_isN (pv 2) pe_non (nomark _))
      (pss_one ps_never)
      pss_nil)
    (pss_one (ps_ret (pe_mkH G_Size (hr.mono (by decide)) (by rfl) g_Size (pa_cons (pe_has G_row_product (hr.mono (by decide)) (pa_cons (pe_fld (pv 0) rfl) (pa_cons (pv 2) pa_nil))) pa_nil)))))), ?_⟩
    refine ⟨_, rfl, v, ns, rfl, hN, fun u H1 s1 hu => ?_⟩
    refine ⟨_, rfl, rfl, false, rfl, iteF ?_⟩
    refine ⟨_, rfl, z, C_Size, dx, _, _, rfl, s1 _ _ h1, cl, nR, look1, _, rfl, ?_⟩
    refine ⟨t, u, ms, ns, 200000, rfl, .inr (sqT_same s1 h2), .inr hu, l1, l2, hx, hy, Nat.le_refl _, fun l H2 s2 nl hl1 => ?_⟩
    refine made (.inl (SqL.of hl1)) (by have := M.prod_len ms ns; omega) fun z2 H3 s3 nz hz => ?_
    exact k z2 H3 ((s1.trans s2).trans s3) (s1.free (s2.free nz)) hz
/-! the int ahead -/
def spRI (K : PySem.W.Frag) (C : Addr) (op : List Int → List Int → List Int) (ok : List Int → List Int → Prop) : Sp := fun vs H Q _ => ∃ (s : Addr) (i : Int) (ms : List Int), vs = [.ref s, .int i] ∧ SizeAt K C H s ms ∧ ok ms [i] ∧
  ∀ (z : Addr) (H' : Hp), Same H H' → H z = none → SizeAt K C H' z (M.cut (op ms [i])) → Q (.ref z) H'
abbrev s_sradd : Stmt := inClass (top 36) 12
abbrev N_sradd : List Str := ["self", "other"]
theorem sc_sradd : FnScope N_sradd ["self", "other"] (defScope s_sradd) := ⟨rfl, rfl, rfl, by decide +kernel, rfl, by decide +kernel, by decide +kernel⟩

theorem ok_sradd {C_Size : Addr} (F : Fun K "__radd__" "Size.__radd__" s_sradd f fd) (T : Blt mg) (mx_Size_add : EO.Mix K C_Size "int" "add") (G_Size_add : EO.OpH P w K mg base 5 C_Size "__add__" (spS2 K C_Size M.plus okAdd)) : FnOk P w K mg base CX0 6 f fd ["self", "other"] (spRI K C_Size M.plus okAdd) := by
  refine F.ok sc_sradd (fun vs H Q E h => ?_) (fun cdv A outer s H vs Q E hr h => ?_)
  · obtain ⟨_, _, _, rfl, _⟩ := h
    rfl
  · obtain ⟨z, i, ms, rfl, ⟨dx, t, h1, h2, h3⟩, hk, k⟩ := h
    refine ⟨_, (pss_one (ps_ret (pe_op (EO.op_oi G_Size_add mx_Size_add (hr.mono (by decide))) (pv 0) (pv 1)))), ?_⟩
    exact ⟨_, rfl, _, rfl, z, dx, _, i, rfl, rfl, h1, z, .int i, ms, [i], rfl, ⟨dx, t, h1, h2, h3⟩, .inr ⟨i, rfl, rfl⟩, hk, k⟩
abbrev s_srmul : Stmt := inClass (top 36) 16
abbrev N_srmul : List Str := ["self", "other"]
theorem sc_srmul : FnScope N_srmul ["self", "other"] (defScope s_srmul) := ⟨rfl, rfl, rfl, by decide +kernel, rfl, by decide +kernel, by decide +kernel⟩

theorem ok_srmul {C_Size : Addr} (F : Fun K "__rmul__" "Size.__rmul__" s_srmul f fd) (T : Blt mg) (mx_Size_mul : EO.Mix K C_Size "int" "mul") (G_Size_mul : EO.OpH P w K mg base 5 C_Size "__mul__" (spS2 K C_Size M.prod okMul)) : FnOk P w K mg base CX0 6 f fd ["self", "other"] (spRI K C_Size M.prod okMul) := by
  refine F.ok sc_srmul (fun vs H Q E h => ?_) (fun cdv A outer s H vs Q E hr h => ?_)
  · obtain ⟨_, _, _, rfl, _⟩ := h
    rfl
  · obtain ⟨z, i, ms, rfl, ⟨dx, t, h1, h2, h3⟩, hk, k⟩ := h
    refine ⟨_, (pss_one (ps_ret (pe_op (EO.op_oi G_Size_mul mx_Size_mul (hr.mono (by decide))) (pv 0) (pv 1)))), ?_⟩
    exact ⟨_, rfl, _, rfl, z, dx, _, i, rfl, rfl, h1, z, .int i, ms, [i], rfl, ⟨dx, t, h1, h2, h3⟩, .inr ⟨i, rfl, rfl⟩, hk, k⟩
abbrev s_srsub : Stmt := inClass (top 36) 14
abbrev N_srsub : List Str := ["self", "other"]
theorem sc_srsub : FnScope N_srsub ["self", "other"] (defScope s_srsub) := ⟨rfl, rfl, rfl, by decide +kernel, rfl, by decide +kernel, by decide +kernel⟩

theorem ok_srsub {C_Size : Addr} (F : Fun K "__rsub__" "Size.__rsub__" s_srsub f fd) (T : Blt mg) (mx_Size_add : EO.Mix K C_Size "int" "add") (G_Size_neg : EO.OpH P w K mg base 5 C_Size "__neg__" (spNeg K C_Size)) (G_Size_add : EO.OpH P w K mg base 5 C_Size "__add__" (spS2 K C_Size M.plus okAdd)) : FnOk P w K mg base CX0 6 f fd ["self", "other"] (spRI K C_Size rsub okRsub) := by
  refine F.ok sc_srsub (fun vs H Q E h => ?_) (fun cdv A outer s H vs Q E hr h => ?_)
  · obtain ⟨_, _, _, rfl, _⟩ := h
    rfl
  · obtain ⟨z, i, ms, rfl, ⟨dx, t, h1, h2, h3⟩, ⟨l1, l2, hx⟩, k⟩ := h
    refine ⟨_, (pss_one (ps_ret (pe_op (EO.op_oi G_Size_add mx_Size_add (hr.mono (by decide))) (pe_un (EO.un_oo (m := "__neg__") (by decide) rfl G_Size_neg (hr.mono (by decide))) (pv 0)) (pv 1)))), ?_⟩
    refine ⟨_, rfl, z, dx, _, rfl, h1, z, ms, rfl, ⟨dx, t, h1, h2, h3⟩, l1, hx, fun z2 H1 s1 nz hz => ?_⟩
    obtain ⟨dy, u, g1, g2, g3⟩ := id hz
    refine ⟨_, rfl, z2, dy, _, i, rfl, rfl, g1, z2, .int i, _, [i], rfl, hz, .inr ⟨i, rfl, rfl⟩, ⟨?_, l2⟩, fun z3 H2 s2 nz2 hz2 => k z3 H2 (s1.trans s2) (s1.free nz2) hz2⟩
    refine Nat.le_trans (cut_len _) ?_
    rw [M.times_len]
    exact l1
/-! moves -/
abbrev s_srshift : Stmt := inClass (top 36) 18
abbrev N_srshift : List Str := ["self", "other"]
theorem sc_srshift : FnScope N_srshift ["self", "other"] (defScope s_srshift) := ⟨rfl, rfl, rfl, by decide +kernel, rfl, by decide +kernel, by decide +kernel⟩

theorem ok_srshift {C_Size : Addr} (F : Fun K "__rshift__" "Size.__rshift__" s_srshift f fd) (T : Blt mg) (cl : Cls K C_Size) (nR : NoAttr K C_Size "row") (g_Size : mg "Size" = some (.ref C_Size)) (G_check_whole : Has P w K mg base 2 "check_whole" ["value"] spCheckWhole) (G_row_ahead : Has P w K mg base 2 "row_ahead" ["row", "k"] (spRowAh K)) (G_Size : MkH P w K mg base 3 C_Size [] (spSInit K C_Size)) : FnOk P w K mg base CX0 5 f fd ["self", "other"] (spMove K C_Size (-1)) := by
  refine F.ok sc_srshift (fun vs H Q E h => ?_) (fun cdv A outer s H vs Q E hr h => ?_)
  · obtain ⟨_, _, _, rfl, _⟩ := h
    rfl
  · obtain ⟨z, ms, k, rfl, ⟨dx, t, h1, h2, h3⟩, hl, hx, hk, q⟩ := h
    refine ⟨_, (pss_cons (ps_expr (pe_has G_check_whole (hr.mono (by decide)) (pa_cons (pv 1) pa_nil)))
    (pss_one (ps_ret (pe_mkH G_Size (hr.mono (by decide)) (by rfl) g_Size (pa_cons (pe_has G_row_ahead (hr.mono (by decide)) (pa_cons (pe_fld (pv 0) rfl) (pa_cons (pe_un un_neg (pv 1)) pa_nil))) pa_nil))))), ?_⟩
    refine ⟨_, rfl, k, rfl, ?_⟩
    refine ⟨_, rfl, z, C_Size, dx, _, _, rfl, h1, cl, nR, look1, _, rfl, _, rfl, ?_⟩
    refine ⟨t, ms, -k, 9000, 200000, rfl, .inr h2, hl, hx, by omega, by omega, by omega, hk.neg, fun l H1 s1 nl hl1 => ?_⟩
    refine made (.inl (SqL.of hl1)) (by rw [M.ah_len]; omega) fun z2 H2 s2 nz hz => ?_
    exact q z2 H2 (s1.trans s2) (s1.free nz) (by rw [show (-1 : Int) * k = -k by omega]; exact hz)
abbrev s_slshift : Stmt := inClass (top 36) 19
abbrev N_slshift : List Str := ["self", "other"]
theorem sc_slshift : FnScope N_slshift ["self", "other"] (defScope s_slshift) := ⟨rfl, rfl, rfl, by decide +kernel, rfl, by decide +kernel, by decide +kernel⟩

theorem ok_slshift {C_Size : Addr} (F : Fun K "__lshift__" "Size.__lshift__" s_slshift f fd) (T : Blt mg) (cl : Cls K C_Size) (nR : NoAttr K C_Size "row") (g_Size : mg "Size" = some (.ref C_Size)) (G_check_whole : Has P w K mg base 2 "check_whole" ["value"] spCheckWhole) (G_row_ahead : Has P w K mg base 2 "row_ahead" ["row", "k"] (spRowAh K)) (G_Size : MkH P w K mg base 3 C_Size [] (spSInit K C_Size)) : FnOk P w K mg base CX0 5 f fd ["self", "other"] (spMove K C_Size 1) := by
  refine F.ok sc_slshift (fun vs H Q E h => ?_) (fun cdv A outer s H vs Q E hr h => ?_)
  · obtain ⟨_, _, _, rfl, _⟩ := h
    rfl
  · obtain ⟨z, ms, k, rfl, ⟨dx, t, h1, h2, h3⟩, hl, hx, hk, q⟩ := h
    refine ⟨_, (pss_cons (ps_expr (pe_has G_check_whole (hr.mono (by decide)) (pa_cons (pv 1) pa_nil)))
    (pss_one (ps_ret (pe_mkH G_Size (hr.mono (by decide)) (by rfl) g_Size (pa_cons (pe_has G_row_ahead (hr.mono (by decide)) (pa_cons (pe_fld (pv 0) rfl) (pa_cons (pv 1) pa_nil))) pa_nil))))), ?_⟩
    refine ⟨_, rfl, k, rfl, ?_⟩
    refine ⟨_, rfl, z, C_Size, dx, _, _, rfl, h1, cl, nR, look1, _, rfl, ?_⟩
    refine ⟨t, ms, k, 9000, 200000, rfl, .inr h2, hl, hx, by omega, by omega, by omega, hk, fun l H1 s1 nl hl1 => ?_⟩
    refine made (.inl (SqL.of hl1)) (by rw [M.ah_len]; omega) fun z2 H2 s2 nz hz => ?_
    exact q z2 H2 (s1.trans s2) (s1.free nz) (by rw [Int.one_mul]; exact hz)
end
end EN

namespace EN
open PySem L2 PyProof.Rows
section
variable {P : Program} {w : World} {K : PySem.W.Frag} {mg : Str → Option Value} {base : Heap} {f : Addr} {fd : FuncData}
abbrev s_spow : Stmt := inClass (top 36) 17
abbrev N_spow : List Str := ["self", "other", "found", "square", "rest"]
theorem sc_spow : FnScope N_spow ["self", "other"] (defScope s_spow) := ⟨rfl, rfl, rfl, by decide +kernel, rfl, by decide +kernel, by decide +kernel⟩

/-- trimmed(row_product(x, y)) -/
theorem prodT {i j : Nat} {σ : L2.St} {H : Hp} {a b : Addr} {r s : List Int} {c : Nat} {Q : VK} (h1 : σ[i]? = some (some (.ref a))) (h2 : σ[j]? = some (some (.ref b))) (ha : SqT K H a (r.map V.int)) (hb : SqT K H b (s.map V.int)) (lr : r.length ≤ 16) (ls : s.length ≤ 16) (zr : SzA c r) (zs : SzA c s) (hc : c ≤ 200000)
    (k : ∀ (t : Addr) (H' : Hp), Same H H' → SqT K H' t ((M.cut (M.prod r s)).map V.int) → Q (.ref t) H') : tCall (spTrim K) [] E0 (tCons (tCall (spRowProd K) [] E0 (tCons (tVar i) (tCons (tVar j) tNil))) tNil) σ H Q := by
  refine ⟨_, h1, _, h2, a, b, r, s, c, rfl, .inr ha, .inr hb, lr, ls, zr, zs, hc, fun l H1 s1 nl hl => ?_⟩
  have := M.prod_len r s
  exact ⟨l, _, rfl, .inl (SqL.of hl), by omega, fun t H2 s2 ht => k t H2 (s1.trans s2) ht⟩
theorem ok_spow {C_Size : Addr} (F : Fun K "__pow__" "Size.__pow__" s_spow f fd) (T : Blt mg) (cl : Cls K C_Size) (nR : NoAttr K C_Size "row") (g_Size : mg "Size" = some (.ref C_Size)) (G_check_from : Has P w K mg base 2 "check_from" ["value", "bound"] spCheckFrom) (G_row_product : Has P w K mg base 3 "row_product" ["row", "other"] (spRowProd K)) (G_trimmed : Has P w K mg base 1 "trimmed" ["row"] (spTrim K))
    (G_Size : MkH P w K mg base 3 C_Size [] (spSInit K C_Size)) : FnOk P w K mg base CX0 5 f fd ["self", "other"] (spPow K C_Size) := by
  refine F.ok sc_spow (fun vs H Q E h => ?_) (fun cdv A outer s H vs Q E hr h => ?_)
  · obtain ⟨_, _, _, rfl, _⟩ := h
    rfl
  · obtain ⟨z, ms, e, rfl, ⟨dx, t, h1, h2, h3⟩, hl, hx, he, q⟩ := h
    refine ⟨_, (pss_cons (ps_expr (pe_has G_check_from (hr.mono (by decide)) (pa_cons (pv 1) (pa_cons pe_int pa_nil))))
    (pss_cons (ps_set (i := 2) sc_spow.nd rfl (Or.inl rfl) (pe_tup (pa_cons pe_int pa_nil)))
    (pss_cons (ps_set (i := 3) sc_spow.nd rfl (Or.inl rfl) (pe_fld (pv 0) rfl))
    (pss_cons (ps_set (i := 4) sc_spow.nd rfl (Or.inl rfl) (pv 1))
    (pss_cons (ps_while PassesOwn.never (pt_cmpR op_gt (pv 4) pe_int (nomark _))
      (pss_cons (ps_if (pt_cmpR op_eq (pe_op op_and (pv 4) pe_int) pe_int (nomark _))
        (pss_one (ps_set (i := 2) sc_spow.nd rfl (Or.inl rfl) (pe_has G_trimmed (hr.mono (by decide)) (pa_cons (pe_has G_row_product (hr.mono (by decide)) (pa_cons (pv 2) (pa_cons (pv 3) pa_nil))) pa_nil))))
        pss_nil)
      (pss_cons (ps_set (i := 4) sc_spow.nd rfl (Or.inl rfl) (pe_op op_shr (pv 4) pe_int))
      (pss_one (ps_if (pt_cmpR op_gt (pv 4) pe_int (nomark _))
        (pss_one (ps_set (i := 3) sc_spow.nd rfl (Or.inl rfl) (pe_has G_trimmed (hr.mono (by decide)) (pa_cons (pe_has G_row_product (hr.mono (by decide)) (pa_cons (pv 3) (pa_cons (pv 3) pa_nil))) pa_nil))))
        pss_nil)))))
    (pss_one (ps_ret (pe_mkH G_Size (hr.mono (by decide)) (by rfl) g_Size (pa_cons (pv 2) pa_nil))))))))), ?_⟩
    refine ⟨_, rfl, (e : Int), 0, rfl, by omega, ?_⟩
    refine ⟨(by show 1 ≤ sizeLine; decide), fun t1 ht1 => ?_⟩
    have s1 := same_new (Same.refl H) (.tup [.int 1]) ht1
    refine ⟨_, rfl, z, C_Size, dx, _, _, rfl, s1 _ _ h1, cl, nR, look1, _, rfl, ?_⟩
    have hF : SqT K (upd H t1 (.tup [.int 1])) t1 (([1] : List Int).map V.int) := SqT.of upd_same
    have hS := sqT_same s1 h2
    generalize upd H t1 (.tup [.int 1]) = H1 at s1 hF hS ⊢
    let W : Nat → L2.St → Hp → Prop := fun r σ H' => ∃ (tF tS : Addr) (rF rS : List Int), σ = [some (.ref z), some (.int (e : Int)), some (.ref tF), some (.ref tS), some (.int (r : Int))] ∧ SqT K H' tF (rF.map V.int) ∧ SqT K H' tS (rS.map V.int) ∧ Same H H' ∧
      (∀ n, M.val rF n * M.val rS n ^ r = M.val ms n ^ e) ∧ ((r ≤ 3 ∧ rF.length ≤ 1 ∧ rS.length ≤ 4 ∧ SzA 10000 rF ∧ SzA 10000 rS) ∨ (r ≤ 1 ∧ rF.length ≤ 4 ∧ rS.length ≤ 7 ∧ SzA 50000 rF ∧ SzA 50000 rS) ∨ (r = 0 ∧ rF.length ≤ 12))
    refine ⟨W, ⟨e, t1, t, [1], ms, rfl, hF, hS, s1, fun n => ?_, .inl ⟨he, Nat.le_refl _, hl, fun x hx => ?_, hx⟩⟩, ?_⟩
    · show M.val [1] n * M.val ms n ^ e = _
      rw [show M.val [1] n = 1 from by rw [M.val_cons]; rfl, Int.one_mul]
    · rw [List.mem_singleton.mp hx]
      exact Sz.mono (a := 1) (by unfold Sz; decide) (by omega)
    rintro r σ H2 ⟨tF, tS, rF, rS, rfl, gF, gS, s2, hv, hb⟩
    refine ⟨_, rfl, _, _, rfl, rfl, _, rfl, ?_⟩
    by_cases hr0 : r = 0
    · subst hr0
      refine iteF ⟨_, rfl, ?_⟩
      have lF : rF.length ≤ 1000 := by omega
      refine made (.inr gF) lF fun z2 H3 s3 nz hz => q z2 rF H3 (s2.trans s3) (s2.free nz) hz fun n => ?_
      have := hv n
      rwa [Int.pow_zero, Int.mul_one] at this
    · rw [decide_eq_true (show (0 : Int) < (r : Int) by omega)]
      refine iteT ?_
      refine ⟨fun σ' H'' => ∃ n', n' < r ∧ W n' σ' H'', fun σ' H' h => h, ?_⟩
      have hc : (r ≤ 3 ∧ rF.length ≤ 1 ∧ rS.length ≤ 4 ∧ SzA 10000 rF ∧ SzA 10000 rS) ∨ (r = 1 ∧ rF.length ≤ 4 ∧ rS.length ≤ 7 ∧ SzA 50000 rF ∧ SzA 50000 rS) := by
        rcases hb with h | h | h
        · exact .inl h
        · exact .inr ⟨by omega, h.2⟩
        · omega
      have lF : rF.length ≤ 4 ∧ rS.length ≤ 7 ∧ SzA 50000 rF ∧ SzA 50000 rS := by
        rcases hc with ⟨_, a, b, c, d⟩ | ⟨_, a, b, c, d⟩
        · exact ⟨by omega, by omega, c.mono (by omega), d.mono (by omega)⟩
        · exact ⟨a, b, c, d⟩
      have r123 : r = 1 ∨ r = 2 ∨ r = 3 := by omega
      rcases r123 with rfl | rfl | rfl
      · refine ⟨_, rfl, _, _, rfl, rfl, rfl, _, rfl, iteT ?_⟩
        refine prodT rfl rfl gF gS (by omega) (by omega) lF.2.2.1 lF.2.2.2 (by omega) fun t3 H3 s3 ht3 => ?_
        refine ⟨_, rfl, _, _, rfl, rfl, by omega, _, rfl, _, _, rfl, rfl, _, rfl, iteF ?_⟩
        refine ⟨0, by omega, t3, tS, _, rS, rfl, ht3, sqT_same s3 gS, s2.trans s3, fun n => ?_, .inr (.inr ⟨rfl, ?_⟩)⟩
        · rw [M.cut_val, M.prod_val, Int.pow_zero, Int.mul_one, ← hv n, Int.pow_one]
        · have := cut_len (M.prod rF rS)
          have := M.prod_len rF rS
          omega
      · have hA : rF.length ≤ 1 ∧ rS.length ≤ 4 ∧ SzA 10000 rF ∧ SzA 10000 rS := by
          rcases hc with h | h
          · exact h.2
          · exact absurd h.1 (by decide)
        refine ⟨_, rfl, _, _, rfl, rfl, rfl, _, rfl, iteF ?_⟩
        refine ⟨_, rfl, _, _, rfl, rfl, by omega, _, rfl, _, _, rfl, rfl, _, rfl, iteT ?_⟩
        refine prodT rfl rfl gS gS (by omega) (by omega) hA.2.2.2 hA.2.2.2 (by omega) fun t3 H3 s3 ht3 => ?_
        refine ⟨1, by omega, tF, t3, rF, _, rfl, sqT_same s3 gF, ht3, s2.trans s3, fun n => ?_, .inr (.inl ⟨by omega, by omega, ?_, lF.2.2.1, ?_⟩)⟩
        · rw [M.cut_val, M.prod_val, Int.pow_one, ← hv n, Int.pow_succ, Int.pow_one]
        · have := cut_len (M.prod rS rS)
          have := M.prod_len rS rS
          omega
        · exact ((hA.2.2.2.prod hA.2.2.2 (by omega) (by omega) (by omega)).mono (by omega)).cut
      · have hA : rF.length ≤ 1 ∧ rS.length ≤ 4 ∧ SzA 10000 rF ∧ SzA 10000 rS := by
          rcases hc with h | h
          · exact h.2
          · exact absurd h.1 (by decide)
        refine ⟨_, rfl, _, _, rfl, rfl, rfl, _, rfl, iteT ?_⟩
        refine prodT rfl rfl gF gS (by omega) (by omega) hA.2.2.1 hA.2.2.2 (by omega) fun t3 H3 s3 ht3 => ?_
        refine ⟨_, rfl, _, _, rfl, rfl, by omega, _, rfl, _, _, rfl, rfl, _, rfl, iteT ?_⟩
        refine prodT rfl rfl (sqT_same s3 gS) (sqT_same s3 gS) (by omega) (by omega) hA.2.2.2 hA.2.2.2 (by omega) fun t4 H4 s4 ht4 => ?_
        refine ⟨1, by omega, t3, t4, _, _, rfl, sqT_same s4 ht3, ht4, (s2.trans s3).trans s4, fun n => ?_, .inr (.inl ⟨by omega, ?_, ?_, ?_, ?_⟩)⟩
        · rw [M.cut_val, M.prod_val, M.cut_val, M.prod_val, Int.pow_one, ← hv n, Int.pow_succ, Int.pow_succ, Int.pow_one, Int.mul_assoc, ← Int.mul_assoc (M.val rS n)]
        · have := cut_len (M.prod rF rS)
          have := M.prod_len rF rS
          omega
        · have := cut_len (M.prod rS rS)
          have := M.prod_len rS rS
          omega
        · exact ((hA.2.2.1.prod hA.2.2.2 (by omega) (by omega) (by omega)).mono (by omega)).cut
        · exact ((hA.2.2.2.prod hA.2.2.2 (by omega) (by omega) (by omega)).mono (by omega)).cut
end
end EN

/-! several except clauses, each with its name; isinstance of a caught error that has fields -/
namespace EX
open PySem PySem.Spec PyProof.Rows L2
abbrev Suit := Addr → Value → Option Addr → TS
/-- behind the suite the name is gone -/
def goneI (i : Nat) (D : Ends) : Ends := { nx := fun τ G => D.nx (τ.set i none) G, rt := D.rt, bk := fun τ G => D.bk (τ.set i none) G, ct := fun τ G => D.ct (τ.set i none) G }
def wAsMany (K : PySem.W.Frag) (m : Nat) (Wout : WX) (D : Ends) : List (Value × Nat × Suit) → WX
  | [] => Wout
  | (c, i, ts) :: r => fun cls d σ H => ∃ b, PySem.W.exmOne K cls c = some b ∧ (b = true → σ.length = m → ∀ a, H a = none → ts a cls d (goneI i D) (σ.set i (some (.ref a))) H) ∧ (b = false → wAsMany K m Wout D r cls d σ H)
inductive Clauses (X : Cx) : List ExceptHandler → List (Value × Nat × Suit) → Prop
  | none_ : Clauses X [] []
  | more {x n : Str} {c : Value} {i : Nat} {ts : Suit} {b0 : Stmt} {rest : List Stmt} {np hp : Pos} {hds : List ExceptHandler} {l : List (Value × Nat × Suit)} (nm : Names X x c) (at_ : X.N[i]? = some n) (loc : X.env.kindOf n = some .local)
      (walk : ∀ (a : Addr) (oe : Obj) (cls : Value) (d : Option Addr) (pn : List (Addr × Obj)), Zc cls d oe → (∃ vs, oe.data = .fields vs) → PSs (X.suite a ((a, oe) :: pn)) (b0 :: rest) (ts a cls d)) (r : Clauses X hds l) :
      Clauses X (.ExceptHandler (some (.Name x np)) (some n) (b0 :: rest) hp :: hds) ((c, i, ts) :: l)
section
variable {X : Cx} {body : List Stmt} {hd1 : ExceptHandler} {hds : List ExceptHandler} {l : List (Value × Nat × Suit)} {pos : Pos} {tb : WX → TS} {Wout : WX}
theorem ps_try_asMany (stk : X.stack = X.env :: X.outer) (fr : X.env.frame = some X.env.locals) (nd : X.N.Nodup) (tk : Takes X Wout)
    (walkB : ∀ (W : WX) (pn : List (Addr × Obj)) (xe : Value → Shared → Prop), Takes (X.tr pn xe) W → PassesOwn (model X.prog X.w) X.A X.env xe → PSs (X.tr pn xe) body (tb W))
    (cl : Clauses X (hd1 :: hds) l) : PS X (.Try body (hd1 :: hds) [] [] pos) (fun D σ H => tb (wAsMany X.K X.N.length Wout D l) D σ H) := by
  refine ⟨fun pins s σ H D I wish => ?_⟩
  have fine := I.ok
  have frames : X.A.frames = some (X.env :: X.outer) := by rw [fine.frames, stk]
  refine wpAny_Try_except ?_
  refine wpAny_mono ((walkB (wAsMany X.K X.N.length Wout D l) (X.pn ++ pins) (fun u t0 => wpAny (model X.prog X.w) X.A (noteFrame u X.env) (fun _ t1 => wpAny (model X.prog X.w) X.A (setFlight u none) (fun _ t2 => wpAny (model X.prog X.w) X.A (handleBy u X.env (hd1 :: hds)) (SP X pins D) X.xe t2) X.xe t1) X.xe t0)
    (fun u t0 air => ?_) PassesOwn.looking).run [] s σ H D (I.toTry _) wish) (fun fl t0 ended => ?_) (fun _ _ q => q)
  · obtain ⟨a, B, sI, pins2, σ2, H2, cls, d, rfl, J2, ground, up, sky, fresh, os, bare, w⟩ := air
    have J : Inv X pins σ2 H2 sI := J2.ofTry fine
    have sky2 : Sky B (X.env :: X.outer) a (Zc cls d) X.env.locals t0.heap := stk ▸ sky
    show wpAny (model X.prog X.w) X.A (noteFrame (Value.ref a) X.env) _ _ _
    refine Sky.land Zc.steady frames fr sky2 fun h3 flies up3 => ?_
    have J3 : Inv X pins σ2 H2 { t0 with heap := h3 } := J.landed ground flies.1 (up.trans up3) os bare
    obtain ⟨oe3, vs3, at3, z3, dt3⟩ := flies.there
    have apart : ∀ {h : Heap} {o : Obj} {vs : Array Value}, h.FunFrames B (X.env :: X.outer) → h.get? a = some o → o.data = .fields vs → a ∉ frs (X.env :: X.outer) := fun {h o vs} ff e dd hm => by
      obtain ⟨_, o2, e2, no⟩ := ff.mem hm
      rw [e] at e2
      cases e2
      exact no _ dd
    have notF := apart flies.2.2.1 at3 dt3
    have notL : a ≠ X.env.locals := fun z => notF (List.mem_filterMap.mpr ⟨X.env, List.mem_cons_self, z ▸ fr⟩)
    have notO : a ∉ X.fs := fun hm => by
      obtain ⟨e, he, q⟩ := List.mem_filterMap.mp hm
      exact notF (List.mem_filterMap.mpr ⟨e, List.mem_cons_of_mem _ he, q⟩)
    have S3 := J3.suite at3 dt3 fresh notL notO
    have go : ∀ {hs2 : List ExceptHandler} {l2 : List (Value × Nat × Suit)}, Clauses X hs2 l2 → wAsMany X.K X.N.length Wout D l2 cls d σ2 H2 → wpAny (model X.prog X.w) X.A (handleBy (.ref a) X.env hs2) (SP X pins D) X.xe { t0 with heap := h3 } := by
      intro hs2 l2 ck
      induction ck with
      | none_ =>
        intro w
        refine wpAny_handleBy_nil ?_
        obtain ⟨k1, k2, k3, oe, vs, T, oT, ts2, eo, zo, dto, fld, rest⟩ := id flies
        unfold PySem.passOn
        refine wpAny_bind (wpAny_field eo dto fld ?_)
        rw [if_neg (by simp : ¬ ((Value.ref T == Value.none) = true))]
        have out : wpAny (model X.prog X.w) X.A (setFlight (.ref a) X.env.frame) (fun _ t4 => wpAny (model X.prog X.w) X.A (throw (.ref a) : Sem Flow) (SP X pins D) X.xe t4) X.xe { t0 with heap := h3 } := by
          rw [fr]
          refine HandSPX.setFlight_upZ flies fun h4 held up4 => wpAny_throw (tk _ _ ?_)
          exact ⟨a, B, sI, pins, σ2, H2, cls, d, rfl, J, ground, (up.trans up3).trans up4, .inr (.inr (stk.symm ▸ held)), fresh, os, bare, w⟩
        first
          | exact wpAny_bind (wpAny_pure (wpAny_bind out))
          | exact wpAny_bind out
      | @more x n c i ts b0 rest np hp hs3 l3 nm at_ loc walk r ih =>
        intro w
        obtain ⟨b, eb, yes, no⟩ := w
        have lc : Loc X.env.scope n := .inl loc
        refine wpAny_handleBy_cons (codeAny_handlers_test ?_) (fun z => by cases z)
        have typed : PySem.W.Looks (model X.prog X.w) h3 (typeOf (.ref a)) cls := fun A Q E s kp q => wpAny_typeOf_ref (kp _ _ at3) (z3.1.symm ▸ q)
        have asks := PySem.W.exm_one (M := model X.prog X.w) (J3.kIn) typed eb
        have named : ∀ {Q : Value → Shared → Prop} {E : Value → Shared → Prop}, Q c { t0 with heap := h3 } → wpAny (model X.prog X.w) (X.A.mark (some (.ref a))) (eval (.Name x np) X.env) Q E { t0 with heap := h3 } := fun {Q E} q => by
          obtain ⟨hg, dbg, hm | ⟨hm, hv, hn⟩⟩ := nm
          · exact ld_glob (X := X.suite a ((a, oe3) :: (X.pn ++ pins))) S3 hg hm q dbg
          · exact ld_blt (X := X.suite a ((a, oe3) :: (X.pn ++ pins))) S3 hg hm hv q hn dbg
        refine named (asks.here ?_)
        cases b with
        | true =>
          refine codeAny_handlers_suite_as (HandSPX.lands_againZ flies fun h4 flies4 up4 => ?_)
          have J4 : Inv X pins σ2 H2 { t0 with heap := h4 } := J.landed ground flies4.1 ((up.trans up3).trans up4) os bare
          obtain ⟨oe4, vs4, at4, z4, dt4⟩ := flies4.there
          have S4 := J4.suite at4 dt4 fresh notL notO
          refine store_ok (X := X.suite a ((a, oe4) :: (X.pn ++ pins))) (v := .ref a) S4 nd at_ lc rfl (fun t5 S5 => ?_) (.inr loc)
          refine wpAny_mono ((walk a oe4 cls d (X.pn ++ pins) z4 ⟨_, dt4⟩).run [] t5 _ H2 _ S5 (yes rfl J.len a fresh)) (fun fl t6 ended => ?_) (fun _ _ z => z.elim)
          have gone : ∀ {τ : L2.St} {G : Hp} {Q : Shared → Prop}, Inv (X.suite a ((a, oe4) :: (X.pn ++ pins))) [] τ G t6 → (∀ t7, Inv X pins (τ.set i none) G t7 → Q t7) → wpAny (model X.prog X.w) X.A (do bindName X.env n .none; unbindBehindTheSuite X.env n hp) (fun _ t7 => Q t7) X.xe t6 :=
            fun {τ G Q} S6 hq => gone_ok (S6.unsuite fine) nd at_ loc hq
          match fl, ended with
          | .next, ⟨τ, G, S6, q6⟩ => exact gone S6 fun t7 J7 => ⟨_, _, J7, q6⟩
          | .brk, ⟨τ, G, S6, q6⟩ => exact gone S6 fun t7 J7 => ⟨_, _, J7, q6⟩
          | .cont, ⟨τ, G, S6, q6⟩ => exact gone S6 fun t7 J7 => ⟨_, _, J7, q6⟩
          | .ret u, ⟨v6, τ, G, S6, r6, q6⟩ => exact gone S6 fun t7 J7 => ⟨_, _, _, J7, r6, q6⟩
        | false =>
          show wpAny _ X.A (handleBy (.ref a) X.env hs3) _ _ _
          exact ih (no rfl)
    exact go cl w
  · match fl, ended with
    | .next, ⟨τ, G, J, q⟩ => exact wpAny_execs_nil ⟨τ, G, J.ofTry fine, q⟩
    | .brk, ⟨τ, G, J, q⟩ => exact ⟨τ, G, J.ofTry fine, q⟩
    | .cont, ⟨τ, G, J, q⟩ => exact ⟨τ, G, J.ofTry fine, q⟩
    | .ret u, ⟨v, τ, G, J, r, q⟩ => exact ⟨v, τ, G, J.ofTry fine, r, q⟩
end
/-- isinstance(e, c), e the caught error, of the class D -/
theorem call_isF {X : Cx} {a D : Addr} {oe : Obj} {d : Option Addr} {pn : List (Addr × Obj)} (C : ExcC X.K D) (zc : Zc (.ref D) d oe) (fld : ∃ vs, oe.data = .fields vs) : CallR (X.suite a ((a, oe) :: pn)) (.builtin "isinstance")
    (fun xs H Q => (∀ dd, d = some dd → ∃ fs, H dd = some (.xd fs)) ∧ rIsE X.K D a xs H Q) := by
  intro pins s σ H xs us Q I r hh
  obtain ⟨hd, c, cv, b, rfl, hcv, e, q⟩ := hh
  match us, r with
  | [_, ut], .cons rx (.cons rt .nil) =>
    cases rx
    obtain rfl := hcv _ rt
    obtain ⟨stands, _⟩ := I.pin (a, oe) (List.mem_append_left _ List.mem_cons_self)
    obtain ⟨vs, hv⟩ := fld
    have J : ∃ od, PySem.W.InstAt s.heap a oe D od := by
      cases d with
      | none => exact ⟨none, stands, zc.1, by unfold PySem.W.notCls; rw [hv], by rw [zc.2]; trivial⟩
      | some dd =>
        obtain ⟨fs, hx⟩ := hd dd rfl
        have ok : ObjOk X.prog X.w H s.heap dd (.xd fs) := I.hok dd _ hx
        obtain ⟨mA, hns, _⟩ := ok
        obtain ⟨od, ho, _⟩ := lookIn_ns hns
        exact ⟨some od, stands, zc.1, by unfold PySem.W.notCls; rw [hv], by rw [zc.2]; exact ho⟩
    obtain ⟨od, J⟩ := J
    have isC : (PySem.W.clsIn X.K D).isSome = true := by
      obtain ⟨cd, hc, _⟩ := PySem.W.any_some C.hd
      rw [hc]
      rfl
    exact PySem.W.kia_one (PySem.W.kitx_exc isC C.hg C.hk C.hs C.ha C.hn C.ht C.hm) I.kIn J e (fun z => nomatch z) fun tk => ⟨.bl b, H, I.kept (t' := tk) fun _ _ z => z, rfl, q⟩
end EX

/-! own errors with one field: made, raised; operators that may raise; lambdas -/
namespace EN
open PySem PySem.Spec PyProof.Rows L2
/-- __init__(self, v): self.fl = v -/
def spEx1 (K : PySem.W.Frag) (C : Addr) (fl : Str) : Sp := fun vs H Q _ => ∃ (a : Addr) (v : V), vs = [.ref a, v] ∧ OexC K C ∧ PySem.W.findIn K (.ref C) fl = some none ∧ H a = some (exo a C none) ∧ ∀ dx, H dx = none → dx ≠ a → Q .non (upd (upd H dx (exd dx [(fl, v)])) a (exo a C (some dx)))
/-- the error class at C, named x, with the field fl -/
structure ErrH (P : Program) (w : World) (K : PySem.W.Frag) (mg : Str → Option Value) (base : Heap) (k : Nat) (x : Str) (C : Addr) (fl : Str) : Prop where
  ex : ∃ (fI : Addr) (fd : FuncData) (ps : List Str), PySem.W.findIn K (.ref C) "__init__" = some (some (.ref fI)) ∧ PySem.W.typeIn K (.ref fI) = some (.type "function") ∧ FnOk P w K mg base CX0 k fI fd ps (spEx1 K C fl) ∧ Binds K fd ps []
  oex : OexC K C
  no : PySem.W.findIn K (.ref C) fl = some none
  m : mg x = some (.ref C)
section
variable {X : Cx} {k : Nat} {C : Addr} {fl x : Str} {e : Expr} {te : TE} {p pos : Pos}
theorem pmk_err (O : ErrH X.prog X.w X.K X.mg X.base k x C fl) (hr : Room (k + 1) X.A) (hg : Gl X x) (he : PA X [e] (tCons te tNil)) (hdb : (x == ("__debug__" : Str)) = false := by decide)
    (hst : starEach [e] X.env = (false, eval e X.env) :: starEach [] X.env := by rfl) (hpl : (backTo pos (starEach [] X.env)).any (·.1) = false := by rfl) : PMk X (.Call (.Name x p) [e] [] pos) (tMkO C (spEx1 X.K C fl) [] (tCons te tNil)) := by
  obtain ⟨fI, fd, ps, iC, tI, F1, hb⟩ := O.ex
  exact pmk_oex (p := p) (pos := pos) (ds := []) (dvs := []) O.oex iC tI F1 hr hb .nil pass0 hg O.m he hdb hst hpl
end
theorem err_ans {P : Program} {w : World} {K : PySem.W.Frag} {mg : Str → Option Value} {base : Heap} {k : Nat} {x fl : Str} {C : Addr} (O : ErrH P w K mg base k x C fl) {H1 : Hp} {v : V} {Q : XK} (q : ∀ dd, H1 dd = none → Q (.ref C) (some dd) (upd H1 dd (.xd [(fl, v)]))) :
    [v].length ≤ 1000 ∧ ∀ a, H1 a = none → spEx1 K C fl (.ref a :: ([v] ++ [])) (upd H1 a (exo a C none)) (fun v H2 => v = .non ∧ ∃ (d : Addr) (fs : List (Str × V)), H2 a = some (exo a C (some d)) ∧ H2 d = some (exd d fs) ∧ H1 d = none ∧ Q (.ref C) (some d) (upd (del H2 a) d (.xd fs))) (fun _ _ _ => False) := by
  refine ⟨by show 1 ≤ 1000; decide, fun a na => ⟨a, v, rfl, O.oex, O.no, upd_same, fun dx hdx ne => ⟨rfl, dx, [(fl, v)], upd_same, by rw [upd_ne ne, upd_same], ?_, ?_⟩⟩⟩
  · rwa [upd_ne ne] at hdx
  · rw [upd_ne ne] at hdx
    have e : upd (del (upd (upd (upd H1 a (exo a C none)) dx (exd dx [(fl, v)])) a (exo a C (some dx))) a) dx (.xd [(fl, v)]) = upd H1 dx (.xd [(fl, v)]) := by
      funext b
      by_cases hb : b = dx
      · rw [hb, upd_same, upd_same]
      · rw [upd_ne hb, upd_ne hb]
        by_cases ha : b = a
        · rw [ha, del_same, na]
        · rw [del_ne ha, upd_ne ha, upd_ne hb, upd_ne ha]
    rw [e]
    exact q dx hdx
/-- the class at C has the method m, a def that keeps sp by level k and may raise -/
structure OpX (P : Program) (w : World) (K : PySem.W.Frag) (mg : Str → Option Value) (base : Heap) (k : Nat) (C : Addr) (m : Str) (sp : Sp) : Prop where
  ex : ∃ g : Addr, PySem.W.findIn K (.ref C) m = some (some (.ref g)) ∧ PySem.W.isFn K (.ref g) = true ∧ FnR P w K mg base (L2.CX P w) k g sp
section
variable {X : Cx} {k : Nat} {C : Addr} {sp : Sp} {m : Str} {E : XK}
theorem run_metX {pins : List (Addr × Obj)} {σ : L2.St} {H : Hp} {s : Shared} {Q : VK} {g a : Addr} {us : List Value} {vs : List V} (F : FnR X.prog X.w X.K X.mg X.base (L2.CX X.prog X.w) k g sp) (hr : Room k X.A) (hx : Passes (L2.CX X.prog X.w) X E) (I : Inv X pins σ H s) (r : Vals vs us)
    (h : sp (.ref a :: vs) H Q E) : wpAny (model X.prog X.w) X.A (call (.ref g) (.ref a :: us)) (EP X pins σ Q) X.xe s := wpAny_call (run_fnR (us := .ref a :: us) (vs := .ref a :: vs) F hr hx I (.cons rfl r) h)
/-- the left one of the class, an int -/
def rOIx (C : Addr) (sp : Sp) (E : XK) : R2 := fun x y H Q => ∃ a dx fs i, x = .ref a ∧ y = .int i ∧ H a = some (.ins C dx fs) ∧ sp [.ref a, .int i] H Q E
theorem op_oix {op : Operator} (O : OpX X.prog X.w X.K X.mg X.base k C (PySem.dunder op.info.2) sp) (mx : EO.Mix X.K C "int" op.info.2) (hx : Passes (L2.CX X.prog X.w) X E) (hr : Room k X.A) : OpR X (binaryOp op) (rOIx C sp E) := by
  intro pins s σ H x y v u Q I rx ry h
  obtain ⟨a, dx, fs, i, rfl, rfl, ha, q⟩ := h
  obtain rfl : v = Value.ref a := rx
  obtain ⟨t, rfl⟩ := ry
  obtain ⟨g, at_, fn, F⟩ := O.ex
  obtain ⟨ox, od, J, _⟩ := StX.insC_at I (.inr ⟨dx, fs, ha⟩)
  exact EO.bin_left mx I.kIn J rfl at_ fn (wpAny_mono (run_metX (vs := [.int i]) F hr hx I (.cons ⟨t, rfl⟩ .nil) q) EO.got_of fun _ _ z => z)
end
/-- isinstance(e, c), e the caught error, of any class -/
theorem call_isG {X : Cx} {a : Addr} {cls : Value} {oe : Obj} {d : Option Addr} {pn : List (Addr × Obj)} (zc : Zc cls d oe) (fld : ∃ vs, oe.data = .fields vs) : CallR (X.suite a ((a, oe) :: pn)) (.builtin "isinstance")
    (fun xs H Q => ∃ D : Addr, cls = .ref D ∧ ExcC X.K D ∧ (∀ dd, d = some dd → ∃ fs, H dd = some (.xd fs)) ∧ rIsE X.K D a xs H Q) := by
  intro pins s σ H xs us Q I r h
  obtain ⟨D, rfl, C, hd, hq⟩ := h
  exact EX.call_isF C zc fld pins s σ H xs us Q I r ⟨hd, hq⟩
/-- a def of the text as it stands behind the top, its code object at c -/
structure FunC (K : PySem.W.Frag) (x qual : Str) (st : Stmt) (f : Addr) (fd : FuncData) (c : Addr) : Prop where
  ex : ∃ (oc : Value) (od : Option Addr) (kV doc pm : Value) (an : Option Addr) (ct : Value) (osl : Array (Option Value)),
    fd = PySem.W.fnOf x qual (defArgs st) (defBody st) (defScope st) .none kV doc pm an (.ref c) ct ∧ K.lookup f = some ⟨oc, od, .func fd, osl⟩ ∧ PySem.W.codeIn K (.ref c) qual = true
  kp : PySem.W.keepIn K (.ref f) = true
theorem FunC.fun_ {K : PySem.W.Frag} {x qual : Str} {st : Stmt} {f c : Addr} {fd : FuncData} (F : FunC K x qual st f fd c) : Fun K x qual st f fd := by
  obtain ⟨oc, od, kV, doc, pm, an, ct, osl, rfl, lk, hcd⟩ := F.ex
  exact ⟨⟨oc, od, kV, doc, pm, an, _, ct, osl, rfl, lk, hcd⟩, F.kp⟩
section
variable {P : Program} {w : World} {K : PySem.W.Frag} {mg : Str → Option Value} {base : Heap}
theorem FunC.ok {x qual : Str} {st : Stmt} {f c : Addr} {fd : FuncData} {N ps : List Str} {k : Nat} {sp : Sp} (F : FunC K x qual st f fd c) (S : FnScope N ps (defScope st)) (len : ∀ vs H Q E, sp vs H Q E → vs.length = ps.length)
    (hbody : ∀ (A : Around) (outer : List Env) (s : Shared) (H : Hp) (vs : List V) (Q : VK) (E : XK), Room k (A.deeper (envOfC qual (defScope st) s.heap.objs.size f (.ref c))) → sp vs H Q E →
      ∃ t, PSs (cxOf CX0 P w K mg base N qual (defScope st) f (.ref c) A outer s H E).nox (defBody st) t ∧ t { nx := fun _ H' => Q .non H', rt := Q } (start N vs) H) : FnOk P w K mg base CX0 (k + 1) f fd ps sp := by
  obtain ⟨oc, od, kV, doc, pm, an, ct, osl, rfl, lk, hcd⟩ := F.ex
  refine fn_of lk hcd S len fun A outer s H vs Q E hr hsp => ?_
  obtain ⟨t, h, q⟩ := hbody A outer s H vs Q E hr hsp
  exact ⟨t, h.nox, q⟩
end
/-- what a lambda's body wishes of errors -/
theorem lam_takes {X : Cx} {A : Around} {outer : List Env} {s : Shared} {H : Hp} {E : XK} {scope : Scope} {f c' : Addr} : Takes (LamX.lamCx X A outer s H E scope f c') (fun cls d _ H => E cls d H) :=
  takes_of (X := LamX.lamCx X A outer s H E scope f c') rfl rfl rfl rfl
theorem lam_passes {X : Cx} {A : Around} {outer : List Env} {s : Shared} {H : Hp} {E : XK} {scope : Scope} {f c' : Addr} : Passes (L2.CX (LamX.lamCx X A outer s H E scope f c').prog (LamX.lamCx X A outer s H E scope f c').w) (LamX.lamCx X A outer s H E scope f c') E :=
  passes_call (X := LamX.lamCx X A outer s H E scope f c') lam_takes fun _ _ _ _ h => h
end EN

namespace EN
open PySem L2 PyProof.Rows
section
variable {P : Program} {w : World} {K : PySem.W.Frag} {mg : Str → Option Value} {base : Heap} {f : Addr} {fd : FuncData}
/-- self // d: a new size, or NotExact(d) -/
def spFdivX (K : PySem.W.Frag) (C CN : Addr) : Sp := fun vs H Q E => ∃ (s : Addr) (ms : List Int) (d : Int), vs = [.ref s, .int d] ∧ SizeAt K C H s ms ∧ ms.length ≤ 900 ∧ SzA 800000 ms ∧ d ≠ 0 ∧ Sz 8000 d ∧
  ((∀ x ∈ ms, d ∣ x) → ∀ (z : Addr) (H' : Hp), Same H H' → H z = none → SizeAt K C H' z (M.cut (ms.map fun x => x.fdiv d)) → Q (.ref z) H') ∧
  (¬ (∀ x ∈ ms, d ∣ x) → ∀ (dd : Addr) (H' : Hp), Same H H' → H dd = none → H' dd = some (.xd [("by", .int d)]) → E (.ref CN) (some dd) H')
theorem fdiv_exact (x d : Int) : x.fdiv d * d = x ↔ d ∣ x := ⟨fun h => ⟨x.fdiv d, by rw [Int.mul_comm]; exact h.symm⟩, Int.fdiv_mul_cancel⟩
abbrev s_sfloordiv : Stmt := inClass (top 36) 20
abbrev N_sfloordiv : List Str := ["self", "other", "count"]
theorem sc_sfloordiv : FnScope N_sfloordiv ["self", "other"] (defScope s_sfloordiv) := ⟨rfl, rfl, rfl, by decide +kernel, rfl, by decide +kernel, by decide +kernel⟩

theorem ok_sfloordiv {C_Size CN : Addr} (F : Fun K "__floordiv__" "Size.__floordiv__" s_sfloordiv f fd) (T : Blt mg) (cl : Cls K C_Size) (nR : NoAttr K C_Size "row") (g_Size : mg "Size" = some (.ref C_Size)) (G_is_whole : Has P w K mg base 1 "is_whole" ["value"] spIsWhole) (G_NotExact : ErrH P w K mg base 1 "NotExact" CN "by") (G_Size : MkH P w K mg base 3 C_Size [] (spSInit K C_Size)) : FnOk P w K mg base (L2.CX P w) 5 f fd ["self", "other"] (spFdivX K C_Size CN) := by
  refine F.okX sc_sfloordiv (fun vs H Q E h => ?_) (fun cdv A outer s H vs Q E hr h => ?_)
  · obtain ⟨_, _, _, rfl, _⟩ := h
    rfl
  · obtain ⟨z, ms, d, rfl, ⟨dx, t, h1, h2, h3⟩, hl, hx, d0, hd, yes, no⟩ := h
    refine ⟨_, (pss_cons (ps_if (PW.pt (pw_or (pt_not (pt_val (pe_has G_is_whole (hr.mono (by decide)) (pa_cons (pv 1) pa_nil)))) (pw_or1 (pt_cmpR op_eq (pv 1) pe_int (nomark _)))))
      (pss_one ps_never)
      pss_nil)
    (pss_cons (ps_if (pt_val (pe_callB (show CallR _ _ (rAny K) from cr_any rfl) (by rfl) T.any_ (by decide +kernel) (pa_cons (pe_lc (own := [("count", 2)]) (g := gName 2) (tt := tYes) (by rfl) sc_sfloordiv.nd (pi_tup (pe_fld (pv 0) rfl)) (blkOk_by (own := [("count", 2)]) (N := N_sfloordiv) (sc := defScope s_sfloordiv) (by decide +kernel)) (fun _ _ _ _ _ => (pg_name (i := 2) sc_sfloordiv.nd rfl (by first | exact Or.inl rfl | exact Or.inr rfl))) (fun _ _ _ _ _ => pts_nil) (fun _ _ _ _ _ => (pe_cmpR op_ne (pe_op op_mulW (pe_op ZK.op_fdivZ (pv 2) (pv 1)) (pv 1)) (pv 2) (nomark _)))) pa_nil)))
      (pss_one (ps_raise rfl (takes_of rfl rfl rfl rfl) (pmk_err G_NotExact (hr.mono (by decide)) rfl (pa_cons (pv 1) pa_nil))))
      pss_nil)
    (pss_one (ps_ret (pe_mkH G_Size (hr.mono (by decide)) (by rfl) g_Size (pa_cons (pe_lc (own := [("count", 2)]) (g := gName 2) (tt := tYes) (by rfl) sc_sfloordiv.nd (pi_tup (pe_fld (pv 0) rfl)) (blkOk_by (own := [("count", 2)]) (N := N_sfloordiv) (sc := defScope s_sfloordiv) (by decide +kernel)) (fun _ _ _ _ _ => (pg_name (i := 2) sc_sfloordiv.nd rfl (by first | exact Or.inl rfl | exact Or.inr rfl))) (fun _ _ _ _ _ => pts_nil) (fun _ _ _ _ _ => (pe_op ZK.op_fdivZ (pv 2) (pv 1)))) pa_nil)))))), ?_⟩
    refine ⟨_, rfl, d, rfl, true, rfl, ?_⟩
    refine iteF ⟨_, rfl, rfl, false, congrArg V.bl (decide_eq_false fun e => d0 (V.int.inj e)), iteF ?_⟩
    have dz : ∀ x : Int, ZK.CDivZ x d := fun x => ZK.divZ d0 hd (by omega)
    have zq : ∀ i : Nat, Sz 800000 ((ms.getD i 0).fdiv d) := fun i => Nat.lt_of_le_of_lt (Int.natAbs_fdiv_le_natAbs _ _) (hx.get i)
    refine ⟨_, rfl, z, C_Size, dx, _, _, rfl, h1, cl, nR, look1, t, rfl, ⟨_, h2⟩, fun D hD => ?_⟩
    refine ZK.lc_growT (K := K) (a := t) (xs := ms.map V.int) (small1000 (by rw [List.length_map]; omega)) (fun _ H' => Same H H') (fun i y => y = .bl (decide (¬ d ∣ ms.getD i 0))) (same_new (Same.refl _) _ hD) (fun i H' s' => sqT_same s' h2) ?_ ?_
    · intro i x H1 acc hx1 s1 hacc hal hR Qn hq
      obtain ⟨hi, rfl⟩ := int_at hx1
      refine ⟨rfl, _, rfl, _, rfl, _, _, rfl, rfl, dz _, _, rfl, _, _, rfl, rfl, (zq i).mulOk hd (by omega), _, rfl, rfl, ?_⟩
      refine hq _ _ ?_ hacc (same_but_new s1 hD)
      refine congrArg V.bl ?_
      show (!decide (V.int ((ms.getD i 0).fdiv d * d) = V.int (ms.getD i 0))) = _
      by_cases hv : d ∣ ms.getD i 0
      · rw [decide_eq_true (congrArg V.int ((fdiv_exact _ _).mpr hv)), decide_eq_false (fun h => h hv)]
        rfl
      · rw [decide_eq_false (fun h => hv ((fdiv_exact _ _).mp (V.int.inj h))), decide_eq_true hv]
        rfl
    · intro H1 acc s1 hacc hal hR
      have e := ZK.eq_map hal hR
      refine ⟨D, (List.range (ms.map V.int).length).map fun i => decide (¬ d ∣ ms.getD i 0), rfl, SqL.of (by rw [hacc, e, List.map_map]; rfl), _, rfl, ?_⟩
      by_cases hall : ∀ x ∈ ms, d ∣ x
      · have e2 : ((List.range (ms.map V.int).length).map fun i => decide (¬ d ∣ ms.getD i 0)).any id = false := by
          rw [List.any_eq_false]
          intro b hb
          obtain ⟨i, hi, rfl⟩ := List.mem_map.mp hb
          rw [List.mem_range, List.length_map] at hi
          have := hall (ms.getD i 0) (by rw [List.getD_eq_getElem?_getD, List.getElem?_eq_getElem hi]; exact List.getElem_mem hi)
          rw [id, decide_eq_false (fun h => h this)]
          exact Bool.false_ne_true
        rw [e2]
        refine iteF ⟨_, rfl, z, C_Size, dx, _, _, rfl, s1 _ _ h1, cl, nR, look1, t, rfl, ⟨_, sqT_same s1 h2⟩, fun D2 hD2 => ?_⟩
        refine ZK.lc_growT (K := K) (a := t) (xs := ms.map V.int) (small1000 (by rw [List.length_map]; omega)) (fun _ H' => Same H1 H') (fun i y => y = .int ((ms.getD i 0).fdiv d)) (same_new (Same.refl _) _ hD2) (fun i H' s' => sqT_same s' (sqT_same s1 h2)) ?_ ?_
        · intro i x H2 acc2 hx1 s2 hacc2 hal2 hR2 Qn hq
          obtain ⟨hi, rfl⟩ := int_at hx1
          exact ⟨rfl, _, rfl, _, rfl, _, _, rfl, rfl, dz _, hq _ _ rfl hacc2 (same_but_new s2 hD2)⟩
        · intro H2 acc2 s2 hacc2 hal2 hR2
          have e3 := ZK.eq_map hal2 hR2
          refine made (r := ms.map fun x => x.fdiv d) (.inl (SqL.of ?_)) (by rw [List.length_map]; omega) fun z2 H3 s3 nz hz => yes hall z2 H3 ((s1.trans s2).trans s3) (s1.free (s2.free nz)) hz
          rw [hacc2, e3, List.length_map, range_ints ms fun x => x.fdiv d]
      · have e2 : ((List.range (ms.map V.int).length).map fun i => decide (¬ d ∣ ms.getD i 0)).any id = true := by
          rw [List.any_eq_true]
          obtain ⟨x, hx, hn⟩ : ∃ x, x ∈ ms ∧ ¬ d ∣ x := by
            false_or_by_contra
            rename_i hno
            exact hall fun x hx => Classical.byContradiction fun hn => hno ⟨x, hx, hn⟩
          obtain ⟨i, hi, rfl⟩ := List.getElem_of_mem hx
          refine ⟨true, List.mem_map.mpr ⟨i, List.mem_range.mpr (by rw [List.length_map]; exact hi), ?_⟩, rfl⟩
          rw [List.getD_eq_getElem?_getD, List.getElem?_eq_getElem hi]
          exact decide_eq_true hn
        rw [e2]
        refine iteT ⟨_, rfl, err_ans G_NotExact fun dd hdd => no hall dd _ (same_new s1 _ hdd) (s1.free hdd) upd_same⟩
end
end EN

namespace EN
open PySem L2 PyProof.Rows
section
variable {P : Program} {w : World} {K : PySem.W.Frag} {mg : Str → Option Value} {base : Heap} {f : Addr} {fd : FuncData}
abbrev s_lerror : Stmt := top 52
abbrev N_lerror : List Str := ["_law_ask", "e"]
theorem sc_lerror : FnScope N_lerror ["_law_ask"] (defScope s_lerror) := ⟨rfl, rfl, rfl, by decide +kernel, rfl, by decide +kernel, by decide +kernel⟩

/-- what the four classes of errors say -/
structure ErrW (K : PySem.W.Frag) (mg : Str → Option Value) (CV CB CN CE CO : Addr) : Prop where
  gV : mg "EverynameError" = some (.ref CV)
  gB : mg "BadValue" = some (.ref CB)
  gN : mg "NotExact" = some (.ref CN)
  gE : mg "EmptySpan" = some (.ref CE)
  gO : mg "NoBound" = some (.ref CO)
  z : mg "ValueError" = none
  z2 : mg "isinstance" = none
  xB : XfC K CB
  xN : XfC K CN
  nB : PySem.W.findIn K (.ref CB) "shown" = some none
  nN : PySem.W.findIn K (.ref CN) "by" = some none
  eB : ExcC K CB
  eN : ExcC K CN
  eE : ExcC K CE
  eO : ExcC K CO
  bV : PySem.W.kitOne K (.ref CB) (.ref CV) = some true
  bW : PySem.W.kitOne K (.ref CB) (.type "ValueError") = some true
  nV : PySem.W.kitOne K (.ref CN) (.ref CV) = some true
  eV : PySem.W.kitOne K (.ref CE) (.ref CV) = some true
  oV : PySem.W.kitOne K (.ref CO) (.ref CV) = some true
  mBB : PySem.W.exmOne K (.ref CB) (.ref CB) = some true
  mNB : PySem.W.exmOne K (.ref CN) (.ref CB) = some false
  mNN : PySem.W.exmOne K (.ref CN) (.ref CN) = some true
  mEB : PySem.W.exmOne K (.ref CE) (.ref CB) = some false
  mEN : PySem.W.exmOne K (.ref CE) (.ref CN) = some false
  mEE : PySem.W.exmOne K (.ref CE) (.ref CE) = some true
  mOB : PySem.W.exmOne K (.ref CO) (.ref CB) = some false
  mON : PySem.W.exmOne K (.ref CO) (.ref CN) = some false
  mOE : PySem.W.exmOne K (.ref CO) (.ref CE) = some false
  mOO : PySem.W.exmOne K (.ref CO) (.ref CO) = some true
/-- what is wished of an error, so that _law_error answers as Q says -/
def EW (CB CN CE CO : Addr) (Q : VK) : XK := fun cls d H =>
  (cls = .ref CB ∧ ∃ (dd : Addr) (v : V), d = some dd ∧ H dd = some (.xd [("shown", v)]) ∧ ∀ t, H t = none → Q (.ref t) (upd H t (.tup [.str "value", v]))) ∨
  (cls = .ref CN ∧ ∃ (dd : Addr) (v : V), d = some dd ∧ H dd = some (.xd [("by", v)]) ∧ ∀ t, H t = none → Q (.ref t) (upd H t (.tup [.str "exact", v]))) ∨
  (cls = .ref CE ∧ d = none ∧ ∀ t, H t = none → Q (.ref t) (upd H t (.tup [.str "empty", .bl true]))) ∨
  (cls = .ref CO ∧ d = none ∧ ∀ t, H t = none → Q (.ref t) (upd H t (.tup [.str "bound", .bl true])))
def TErr (CB CN CE CO : Addr) : (XK → Hp → VK → Prop) → Hp → VK → Prop := fun tl H Q => tl (EW CB CN CE CO Q) H fun _ H' => Q .non H'
theorem slots2 : ∀ {σ : L2.St}, σ.length = N_lerror.length → ∃ a b, σ = [a, b]
  | [a, b], _ => ⟨a, b, rfl⟩
  | [], h => by cases h
  | [_], h => by cases h
  | _ :: _ :: _ :: _, h => by cases h
theorem err_gives {X : Cx} {CV CB CN CE CO g : Addr} {cdg : Value} {q : Str} (W : ErrW X.K X.mg CV CB CN CE CO) : LamX.GivesTo X N_lerror "_law_error" (defScope s_lerror) g cdg (defBody s_lerror) "_law_ask" q (TErr CB CN CE CO) := by
  intro f c' s H Q tl act hc h
  refine ⟨_, pss_cons (EX.ps_try_asMany (X := (cxOf C8.CX0 X.prog X.w X.K X.mg X.base N_lerror "_law_error" (defScope s_lerror) g cdg X.A X.stack s H C8.E0).nox)
      (tb := fun W D σ H => ∃ Ech : XK, (∀ cls d σ' H', Ech cls d H' → W cls d σ' H') ∧ σ[0]? = some (some (.ref f)) ∧ H c' = some (LamX.CodeO c' q) ∧ tl Ech H fun v H' => D.nx σ H')
      rfl rfl sc_lerror.nd L2.takes0 (fun W pn xe tk _ => ?_)
      (.more ⟨rfl, rfl, .inl W.gB⟩ (i := 1) rfl rfl (fun a oe cls d pn zc fld => pss_one (ps_ret (pe_ifExp (PW.pt (pw_and (pt_val (pe_callB (call_isG zc fld) rfl W.z2 (by decide +kernel) (pa_cons (pv 1) (pa_cons (pe_glob (v := .ref CV) rfl W.gV rfl) pa_nil)))) (pw_and1 (pt_val (pe_callB (call_isG zc fld) rfl W.z2 (by decide +kernel) (pa_cons (pv 1) (pa_cons (pe_bltn (v := .ty "ValueError") (u := .type "ValueError") rfl W.z (by decide +kernel) rfl) pa_nil)))))))
          (pe_tup (pa_cons pe_str (pa_cons (pe_xf W.xB W.nB zc fld (pv 1)) pa_nil))) pe_non)))
        (.more ⟨rfl, rfl, .inl W.gN⟩ (i := 1) rfl rfl (fun a oe cls d pn zc fld => pss_one (ps_ret (pe_ifExp (pt_val (pe_callB (call_isG zc fld) rfl W.z2 (by decide +kernel) (pa_cons (pv 1) (pa_cons (pe_glob (v := .ref CV) rfl W.gV rfl) pa_nil))))
            (pe_tup (pa_cons pe_str (pa_cons (pe_xf W.xN W.nN zc fld (pv 1)) pa_nil))) pe_non)))
          (.more ⟨rfl, rfl, .inl W.gE⟩ (i := 1) rfl rfl (fun a oe cls d pn zc fld => pss_one (ps_ret (pe_tup (pa_cons pe_str (pa_cons (pe_callB (call_isG zc fld) rfl W.z2 (by decide +kernel) (pa_cons (pv 1) (pa_cons (pe_glob (v := .ref CV) rfl W.gV rfl) pa_nil))) pa_nil)))))
            (.more ⟨rfl, rfl, .inl W.gO⟩ (i := 1) rfl rfl (fun a oe cls d pn zc fld => pss_one (ps_ret (pe_tup (pa_cons pe_str (pa_cons (pe_callB (call_isG zc fld) rfl W.z2 (by decide +kernel) (pa_cons (pv 1) (pa_cons (pe_glob (v := .ref CV) rfl W.gV rfl) pa_nil))) pa_nil)))))
              .none_)))))
    (pss_one (ps_ret pe_non)), ?_⟩
  · refine ⟨fun pins s' σ H' D I h' => ?_⟩
    obtain ⟨Ech, hW, h1, h2, h3⟩ := h'
    exact (pss_one (ps_expr (act W pn xe Ech _ _ tk hW))).run pins s' σ H' D I ⟨h1, h2, h3⟩
  · refine ⟨EW CB CN CE CO Q, fun cls d σ' H' e => ?_, rfl, hc, h⟩
    rcases e with ⟨rfl, dd, v, rfl, hd, k⟩ | ⟨rfl, dd, v, rfl, hd, k⟩ | ⟨rfl, rfl, k⟩ | ⟨rfl, rfl, k⟩
    · refine ⟨true, W.mBB, fun _ l2 a na => ?_, fun z => nomatch z⟩
      have own : ∀ d2 : Addr, some dd = some d2 → ∃ fs, H' d2 = some (.xd fs) := fun d2 e => by cases e; exact ⟨_, hd⟩
      obtain ⟨x0, x1, rfl⟩ := slots2 l2
      refine ⟨_, rfl, CB, rfl, W.eB, own, .ref CV, .ref CV, true, rfl, fun u r => r, W.bV, true, rfl, iteT ⟨_, rfl, CB, rfl, W.eB, own, .ty "ValueError", .type "ValueError", true, rfl, fun u r => r, W.bW, true, rfl, iteT ?_⟩⟩
      exact ⟨_, rfl, rfl, rfl, dd, _, v, rfl, hd, look1, (by show 2 ≤ sizeLine; decide), k⟩
    · refine ⟨false, W.mNB, (fun z => nomatch z), fun _ => ⟨true, W.mNN, fun _ l2 a na => ?_, fun z => nomatch z⟩⟩
      have own : ∀ d2 : Addr, some dd = some d2 → ∃ fs, H' d2 = some (.xd fs) := fun d2 e => by cases e; exact ⟨_, hd⟩
      obtain ⟨x0, x1, rfl⟩ := slots2 l2
      refine ⟨_, rfl, CN, rfl, W.eN, own, .ref CV, .ref CV, true, rfl, fun u r => r, W.nV, true, rfl, iteT ?_⟩
      exact ⟨_, rfl, rfl, rfl, dd, _, v, rfl, hd, look1, (by show 2 ≤ sizeLine; decide), k⟩
    · refine ⟨false, W.mEB, (fun z => nomatch z), fun _ => ⟨false, W.mEN, (fun z => nomatch z), fun _ => ⟨true, W.mEE, fun _ l2 a na => ?_, fun z => nomatch z⟩⟩⟩
      obtain ⟨x0, x1, rfl⟩ := slots2 l2
      exact ⟨_, rfl, CE, rfl, W.eE, (fun d2 e => nomatch e), .ref CV, .ref CV, true, rfl, fun u r => r, W.eV, (by show 2 ≤ sizeLine; decide), k⟩
    · refine ⟨false, W.mOB, (fun z => nomatch z), fun _ => ⟨false, W.mON, (fun z => nomatch z), fun _ => ⟨false, W.mOE, (fun z => nomatch z), fun _ => ⟨true, W.mOO, fun _ l2 a na => ?_, fun z => nomatch z⟩⟩⟩⟩
      obtain ⟨x0, x1, rfl⟩ := slots2 l2
      exact ⟨_, rfl, CO, rfl, W.eO, (fun d2 e => nomatch e), .ref CV, .ref CV, true, rfl, fun u r => r, W.oV, (by show 2 ≤ sizeLine; decide), k⟩
end
end EN

namespace EN
open PySem L2 PyProof.Rows
section
variable {P : Program} {w : World} {K : PySem.W.Frag} {mg : Str → Option Value} {base : Heap} {f : Addr} {fd : FuncData}
/-! ### all but tables stays -/
theorem ext_sqL {H H' : Hp} {a : Addr} {xs : List V} (e : LamX.ExtN H H') (h : SqL K H a xs) : SqL K H' a xs := by
  rcases h with (h | ⟨o, h⟩) | h
  · exact .inl (.inl (e _ _ h fun ps z => by cases z))
  · exact .inl (.inr ⟨o, e _ _ h fun ps z => by cases z⟩)
  · exact .inr h
theorem ext_sqT {H H' : Hp} {a : Addr} {xs : List V} (e : LamX.ExtN H H') (h : SqT K H a xs) : SqT K H' a xs := by
  rcases h with (h | ⟨o, h⟩) | h
  · exact .inl (.inl (e _ _ h fun ps z => by cases z))
  · exact .inl (.inr ⟨o, e _ _ h fun ps z => by cases z⟩)
  · exact .inr h
theorem Pen.ext {H H' : Hp} {p c : Addr} {ns : List Int} {B : Nat} (h : Pen H p c ns B) (e : LamX.ExtN H H') : Pen H' p c ns B := by
  obtain ⟨b, r, q, z⟩ := h.at_
  exact ⟨⟨b, r, e _ _ q (fun ps z => by cases z), z⟩, e _ _ h.cells (fun ps z => by cases z), h.few, h.small⟩
theorem ext_same {H H' : Hp} (s : Same H H') : LamX.ExtN H H' := fun b o h _ => s b o h
/-- what stood stands, but at p, and but tables -/
def ButN (p : Addr) (H H' : Hp) : Prop := ∀ b o, H b = some o → b ≠ p → (∀ ps, o ≠ .tbl ps) → H' b = some o
theorem ButN.but {p : Addr} {H H' : Hp} (h : But p H H') : ButN p H H' := fun b o e n _ => h b o e n
theorem ButN.ext {p : Addr} {H H' : Hp} (h : LamX.ExtN H H') : ButN p H H' := fun b o e _ n => h b o e n
theorem ButN.trans {p : Addr} {H H1 H2 : Hp} (a : ButN p H H1) (b : ButN p H1 H2) : ButN p H H2 := fun c o h n t => b c o (a c o h n t) n t
theorem Pen.sqTN {H H' : Hp} {p c a : Addr} {ns : List Int} {B : Nat} {xs : List V} (P : Pen H p c ns B) (s : ButN p H H') (h : SqT K H a xs) : SqT K H' a xs := by
  obtain ⟨b, r, e, _⟩ := P.at_
  have ne : ∀ o, H a = some o → o ≠ penO c b r → a ≠ p := fun o h n z => by rw [z, e] at h; exact n (Option.some.inj h).symm
  rcases h with (h | ⟨o, h⟩) | h
  · exact .inl (.inl (s _ _ h (ne _ h fun z => by cases z) fun ps z => by cases z))
  · exact .inl (.inr ⟨o, s _ _ h (ne _ h fun z => by cases z) fun ps z => by cases z⟩)
  · exact .inr h
theorem Pen.sqLN {H H' : Hp} {p c a : Addr} {ns : List Int} {B : Nat} {xs : List V} (P : Pen H p c ns B) (s : ButN p H H') (h : SqL K H a xs) : SqL K H' a xs := by
  obtain ⟨b, r, e, _⟩ := P.at_
  have ne : ∀ o, H a = some o → o ≠ penO c b r → a ≠ p := fun o h n z => by rw [z, e] at h; exact n (Option.some.inj h).symm
  rcases h with (h | ⟨o, h⟩) | h
  · exact .inl (.inl (s _ _ h (ne _ h fun z => by cases z) fun ps z => by cases z))
  · exact .inl (.inr ⟨o, s _ _ h (ne _ h fun z => by cases z) fun ps z => by cases z⟩)
  · exact .inr h
theorem Pen.tabs {H H' : Hp} {p c : Addr} {ns : List Int} {B : Nat} {T : List (Addr × Str)} (P : Pen H p c ns B) (s : But p H H') (h : LamX.Tabs T H) : LamX.Tabs T H' := fun q hq => by
  obtain ⟨b, r, e, _⟩ := P.at_
  obtain ⟨ps, h1, h2, h3⟩ := h q hq
  refine ⟨ps, s _ _ h1 (fun z => by rw [z, e] at h1; cases h1), h2, fun pos cv hc => ?_⟩
  obtain ⟨c2, e1, e2⟩ := h3 pos cv hc
  refine ⟨c2, e1, s _ _ e2 fun z => ?_⟩
  rw [z, e] at e2
  have e3 := Option.some.inj e2
  unfold LamX.CodeO at e3
  cases e3
theorem Tabs.same {H H' : Hp} {T : List (Addr × Str)} (s : Same H H') (h : LamX.Tabs T H) : LamX.Tabs T H' := h.ext s
/-- _law_error as it stands -/
structure LErrH (K : PySem.W.Frag) (mg : Str → Option Value) (CV CB CN CE CO : Addr) : Prop where
  ex : ∃ (g : Addr) (fd : FuncData), mg "_law_error" = some (.ref g) ∧ Fun K "_law_error" "_law_error" s_lerror g fd
  w : ErrW K mg CV CB CN CE CO
section
variable {X : Cx} {CV CB CN CE CO c P : Addr} {T : List (Addr × Str)} {k : Nat} {params : Arguments} {body : Expr} {scope : Scope} {t : XK → TE} {p lpos pos : Pos}
theorem pe_lamerr (LE : LErrH X.K X.mg CV CB CN CE CO) (TB : LamX.TabB X.base X.mg c P) (hcode : X.env.code = .ref c) (hmT : (P, X.env.qual ++ "<lambda>") ∈ T) (hu : ∀ p ∈ T, p.1 = P → p.2 = X.env.qual ++ "<lambda>") (hr : Room (k + 2) X.A) (L : LamX.LamS X.env.scope scope) (hdef : defaultsOf params X.env = ([], []))
    (hbind : ∀ (q : Str) (cl : List (Str × Addr)) (pm cv ctv : Value), bindArgs (PySem.W.kla_fn "<lambda>" q params body scope cl pm cv ctv) ⟨[], []⟩ = pure [])
    (hbody : ∀ (A : Around) (outer : List Env) (s : Shared) (H : Hp) (E : XK) (f c' : Addr), Room k (A.deeper (LamX.lamEnv X scope s.heap.objs.size f c')) → PE (LamX.lamCx X A outer s H E scope f c') body (t E)) (hg : Gl X "_law_error" := by rfl) :
    PE X (.Call (.Name "_law_error" p) [.Lambda params body scope lpos] [] pos) (LamX.tLam T (TErr CB CN CE CO) t) := by
  obtain ⟨g, fd, hm, F⟩ := LE.ex
  have hb := F.binds (ps := ["_law_ask"]) fun _ _ _ _ _ _ us hl => match us, hl with | [_], _ => rfl
  obtain ⟨oc, od, kV, doc, pm, an, cdv, ct, osl, rfl, lk, hcd⟩ := F.ex
  exact LamX.pe_lamcall (Ng := N_lerror) hg hm F.kp lk hcd hb sc_lerror rfl (.inl rfl) (err_gives LE.w) TB hcode hmT hu hr L hdef hbind hbody
end
end
end EN

namespace EN
open PySem L2 PyProof.Rows
section
variable {P : Program} {w : World} {K : PySem.W.Frag} {mg : Str → Option Value} {base : Heap} {f : Addr} {fd : FuncData}
abbrev s_pick : Stmt := top 40
abbrev N_pick : List Str := ["_law_pen_here", "_law_options"]
theorem sc_pick : FnScope N_pick ["_law_pen_here", "_law_options"] (defScope s_pick) := ⟨rfl, rfl, rfl, by decide +kernel, rfl, by decide +kernel, by decide +kernel⟩

theorem at_any {xs : List V} {i : Int} (h0 : 0 ≤ i) (h1 : i < xs.length) : ∃ x, x ∈ xs ∧ atI xs i = some x := by
  obtain ⟨n, rfl⟩ := Int.eq_ofNat_of_zero_le h0
  have hn : n < xs.length := by omega
  exact ⟨xs[n], List.getElem_mem hn, atI_nat (List.getElem?_eq_getElem hn)⟩
theorem ok_pick (F : Fun K "_law_pick" "_law_pick" s_pick f fd) (T : Blt mg) (G_draw : Has P w K mg base 1 "_law_draw" ["_law_pen_here", "_law_many"] spDraw) : FnOk P w K mg base CX0 2 f fd ["_law_pen_here", "_law_options"] (spPick K) := by
  refine F.ok sc_pick (fun vs H Q E h => ?_) (fun cdv A outer s H vs Q E hr h => ?_)
  · obtain ⟨p, c, ns, B, l, xs, rfl, _⟩ := h
    rfl
  · obtain ⟨p, c, ns, B, l, xs, rfl, hP, hB, hS, h0, hl, k⟩ := h
    refine ⟨_, (pss_one (ps_ret (pe_ix (show IxR _ (rIx K) from ix_seq) (pv 1) (pe_has G_draw (hr.mono (by decide)) (pa_cons (pv 0) (pa_cons (pe_callB (show CallR _ _ (rLenQ K) from c_len) (by rfl) T.len_ (by decide +kernel) (pa_cons (pv 1) pa_nil)) pa_nil))) (fun _ _ => rfl)))), ?_⟩
    refine ⟨_, rfl, _, rfl, _, rfl, l, xs, rfl, hS, p, c, ns, B, (xs.length : Int), rfl, hP, hB, by omega, ?_, fun d H1 d0 d1 P1 s1 => ?_⟩
    · exact Nat.lt_of_le_of_lt (by omega : (xs.length : Int).natAbs ≤ 1000) (Nat.lt_of_lt_of_le (by decide : 1000 < 2 ^ 10) (Nat.pow_le_pow_right (by decide) (by decide)))
    · obtain ⟨x, hx, hat⟩ := at_any (xs := xs) d0 d1
      rcases hS with hS | hS
      · exact .inl ⟨l, xs, d, x, rfl, rfl, hP.sqL s1 hS, hat, k x hx H1 P1 s1⟩
      · exact .inr (.inl ⟨l, xs, d, x, rfl, rfl, hP.sqT s1 hS, hat, k x hx H1 P1 s1⟩)
end
end EN

namespace EN.M
theorem times_fdiv {X : List Int} {d : Int} (h : ∀ x ∈ X, d ∣ x) : times (X.map fun x => x.fdiv d) d = X := by
  unfold times
  rw [List.map_map]
  refine (List.map_congr_left fun x hx => ?_).trans (List.map_id X)
  exact Int.fdiv_mul_cancel (h x hx)
theorem fdiv_val {X : List Int} {d : Int} (h : ∀ x ∈ X, d ∣ x) (n : Int) : val (X.map fun x => x.fdiv d) n * d = val X n := by
  rw [← times_val, times_fdiv h]
theorem cutN_map {ms : List Int} {g : Int → Int} (h : ∀ x ∈ ms, (g x = 0 ↔ x = 0)) : ∀ e, e ≤ ms.length → cutN (ms.map g) e = cutN ms e
  | 0, _ => rfl
  | e + 1, he => by
    have hx : e < ms.length := by omega
    have hk := h ms[e] (List.getElem_mem hx)
    unfold cutN
    rw [List.getElem?_map, List.getElem?_eq_getElem hx, cutN_map h e (by omega)]
    by_cases z : ms[e] = 0
    · rw [if_pos (by rw [Option.map_some, hk.mpr z]), if_pos (by rw [z])]
    · rw [if_neg (fun q => z (hk.mp (by rw [Option.map_some] at q; exact Option.some.inj q))), if_neg (fun q => z (Option.some.inj q))]
theorem cut_map {ms : List Int} {g : Int → Int} (h : ∀ x ∈ ms, (g x = 0 ↔ x = 0)) : cut (ms.map g) = (cut ms).map g := by
  unfold cut
  rw [List.length_map, cutN_map h _ (Nat.le_refl _), List.map_take]
theorem fdiv_zero {x d : Int} (hd : d ∣ x) : x.fdiv d = 0 ↔ x = 0 := by
  constructor
  · intro h
    have := Int.fdiv_mul_cancel hd
    rw [h, Int.zero_mul] at this
    exact this.symm
  · rintro rfl
    exact Int.zero_fdiv d
end EN.M

namespace EN
open PySem L2 PyProof.Rows
section
variable {P : Program} {w : World} {K : PySem.W.Frag} {mg : Str → Option Value} {base : Heap} {f : Addr} {fd : FuncData}
def qDiv : Str := Str.ofString "_law_divided" ++ ".<locals>." ++ "<lambda>"
def spDivided (K : PySem.W.Frag) (C : Addr) (T : List (Addr × Str)) : Sp := fun vs H Q _ => ∃ (p c s t : Addr) (ns : List Int) (B : Nat) (ms : List Int), vs = [.ref p, .ref s, .ref t] ∧ Pen H p c ns B ∧ B + 5 ≤ 1000000000 ∧ SizeAt K C H s ms ∧ SqT K H t (ms.map V.int) ∧ M.cut ms = ms ∧ ms.length ≤ 16 ∧ SzA 1000 ms ∧ LamX.Tabs T H ∧
  ∀ H' : Hp, Pen H' p c ns (B + 5) → ButN p H H' → LamX.Tabs T H' → Q (.bl true) H'
abbrev s_ldivided : Stmt := top 53
abbrev N_ldivided : List Str := ["_law_pen_here", "_law_size", "_law_row_here", "_law_by", "_law_much", "_law_amount"]
theorem sc_ldivided : FnScope N_ldivided ["_law_pen_here", "_law_size", "_law_row_here"] (defScope s_ldivided) := ⟨rfl, rfl, rfl, by decide +kernel, rfl, by decide +kernel, by decide +kernel⟩

theorem ok_ldivided {C_Size CV CB CN CE CO cD PD : Addr} {T0 : List (Addr × Str)} (F : FunC K "_law_divided" "_law_divided" s_ldivided f fd cD) (T : Blt mg) (g_Size : mg "Size" = some (.ref C_Size)) (LE : LErrH K mg CV CB CN CE CO) (TB : LamX.TabB base mg cD PD) (hmT : (PD, qDiv) ∈ T0) (hu : ∀ p ∈ T0, p.1 = PD → p.2 = qDiv) (mx_Size_floordiv : EO.Mix K C_Size "int" "floordiv")
    (G_pick : Has P w K mg base 2 "_law_pick" ["_law_pen_here", "_law_options"] (spPick K)) (G_sizeis : Has P w K mg base 2 "_law_size_is" ["_law_size", "_law_row_here"] (spSizeIs K C_Size)) (X_Size_floordiv : OpX P w K mg base 5 C_Size "__floordiv__" (spFdivX K C_Size CN)) (G_Size : MkH P w K mg base 3 C_Size [] (spSInit K C_Size)) :
    FnOk P w K mg base CX0 8 f fd ["_law_pen_here", "_law_size", "_law_row_here"] (spDivided K C_Size T0) := by
  refine F.ok sc_ldivided (fun vs H Q E h => ?_) (fun A outer s H vs Q E hr h => ?_)
  · obtain ⟨_, _, _, _, _, _, _, rfl, _⟩ := h
    rfl
  · obtain ⟨p, c, z, t, ns, B, ms, rfl, hP, hB, hz, ht, hcut, hl, hx, hT, k⟩ := h
    refine ⟨_, (pss_cons (ps_set (i := 3) sc_ldivided.nd rfl (Or.inr rfl) (pe_has G_pick (hr.mono (by decide)) (pa_cons (pv 0) (pa_cons (pe_lst (pa_cons pe_int (pa_cons (pe_un un_neg pe_int) (pa_cons pe_int (pa_cons pe_int (pa_cons (pe_un un_neg pe_int) (pa_cons (pe_op op_add (pe_op op_pow pe_int pe_int) pe_int) pa_nil))))))) pa_nil))))
    (pss_cons (ps_set (i := 4) sc_ldivided.nd rfl (Or.inl rfl) (pe_mkH G_Size (hr.mono (by decide)) (by rfl) g_Size (pa_cons (pe_lc (own := [("_law_amount", 5)]) (g := gName 5) (tt := tYes) (by rfl) sc_ldivided.nd (pi_tup (pv 2)) (blkOk_by (own := [("_law_amount", 5)]) (N := N_ldivided) (sc := defScope s_ldivided) (by decide +kernel)) (fun _ _ _ _ _ => (pg_name (i := 5) sc_ldivided.nd rfl (by first | exact Or.inl rfl | exact Or.inr rfl))) (fun _ _ _ _ _ => pts_nil) (fun _ _ _ _ _ => (pe_op op_mulW (pv 5) (pv 3)))) pa_nil)))
    (pss_cons (ps_if (pt_not (pt_val (pe_has G_sizeis (hr.mono (by decide)) (pa_cons (pe_op (op_oix X_Size_floordiv mx_Size_floordiv passL (hr.mono (by decide))) (pv 4) (pv 3)) (pa_cons (pv 2) pa_nil)))))
      (pss_one (ps_ret pe_bl))
      pss_nil)
    (pss_cons (ps_if (pt_val (pe_callB (show CallR _ _ (rAll K) from cr_all rfl) (by rfl) T.all_ (by decide +kernel) (pa_cons (pe_lc (own := [("_law_amount", 5)]) (g := gName 5) (tt := tYes) (by rfl) sc_ldivided.nd (pi_tup (pv 2)) (blkOk_by (own := [("_law_amount", 5)]) (N := N_ldivided) (sc := defScope s_ldivided) (by decide +kernel)) (fun _ _ _ _ _ => (pg_name (i := 5) sc_ldivided.nd rfl (by first | exact Or.inl rfl | exact Or.inr rfl))) (fun _ _ _ _ _ => pts_nil) (fun _ _ _ _ _ => (pe_cmpR op_eq (pe_op op_modN (pe_callTy call_int1 (by rfl) T.int_ (by decide +kernel) (pa_cons (pv 5) pa_nil)) (pv 3)) pe_int (nomark _)))) pa_nil)))
      (pss_one (ps_ret (pe_has G_sizeis (hr.mono (by decide)) (pa_cons (pe_op (op_oix X_Size_floordiv mx_Size_floordiv passL (hr.mono (by decide))) (pv 1) (pv 3)) (pa_cons (pe_callTy (show CallR _ _ (rTupQ K) from c_tuple) (by rfl) T.tuple_ (by decide +kernel) (pa_cons (pe_lc (own := [("_law_amount", 5)]) (g := gName 5) (tt := tYes) (by rfl) sc_ldivided.nd (pi_tup (pv 2)) (blkOk_by (own := [("_law_amount", 5)]) (N := N_ldivided) (sc := defScope s_ldivided) (by decide +kernel)) (fun _ _ _ _ _ => (pg_name (i := 5) sc_ldivided.nd rfl (by first | exact Or.inl rfl | exact Or.inr rfl))) (fun _ _ _ _ _ => pts_nil) (fun _ _ _ _ _ => (pe_op ZK.op_fdivZ (pv 5) (pv 3)))) pa_nil)) pa_nil)))))
      pss_nil)
    (pss_one (ps_ret (pe_cmpR (show OpR _ _ (rEqD K) from op_eqD hr.units) (pe_lamerr (k := 5) LE TB rfl hmT hu (hr.mono (by decide)) (LamX.lamS_by (sc := defScope s_ldivided) (by decide +kernel)) rfl (fun _ _ _ _ _ => rfl) (fun A2 outer2 s2 H2 E2 f2 c2 hr2 => (pe_op (op_oix X_Size_floordiv mx_Size_floordiv lam_passes (hr2.mono (by decide))) (pv 1) (pv 3)))) (pe_tup (pa_cons pe_str (pa_cons (pv 3) pa_nil))) (nomark _)))))))), ?_⟩
    have big : Sz 210 ((10 : Int) ^ (60 : Int).toNat + 7) := by unfold Sz; decide +kernel
    refine ⟨_, rfl, _, rfl, _, rfl, _, _, rfl, rfl, ⟨by decide, by decide, by decide⟩, _, _, rfl, rfl, (by show 6 ≤ sizeLine; decide), fun l hl0 => ?_⟩
    have s1 := same_new (Same.refl H) (.lst [.int 1, .int (-1), .int 2, .int 3, .int (-6), .int ((10 : Int) ^ (60 : Int).toNat + 7)]) hl0
    refine ⟨p, c, ns, B, l, _, rfl, hP.same s1, by omega, .inl (SqL.of upd_same), by show 0 < 6; decide, by show 6 ≤ 1000; decide, fun x hx1 H2 P2 b2 => ?_⟩
    have hd : ∃ d : Int, x = .int d ∧ d ≠ 0 ∧ Sz 210 d := by
      simp only [List.mem_cons, List.not_mem_nil, or_false] at hx1
      rcases hx1 with rfl | rfl | rfl | rfl | rfl | rfl
      · exact ⟨_, rfl, by decide, by unfold Sz; decide +kernel⟩
      · exact ⟨_, rfl, by decide, by unfold Sz; decide +kernel⟩
      · exact ⟨_, rfl, by decide, by unfold Sz; decide +kernel⟩
      · exact ⟨_, rfl, by decide, by unfold Sz; decide +kernel⟩
      · exact ⟨_, rfl, by decide, by unfold Sz; decide +kernel⟩
      · exact ⟨_, rfl, by decide +kernel, big⟩
    obtain ⟨d, rfl, d0, dz⟩ := hd
    have hz2 : SizeAt K C_Size H2 z ms := (hP.same s1).size b2 (hz.same s1)
    have ht2 : SqT K H2 t (ms.map V.int) := (hP.same s1).sqT b2 (sqT_same s1 ht)
    have hT2 : LamX.Tabs T0 H2 := (hP.same s1).tabs b2 (hT.ext s1)
    have b02 : ButN p H H2 := (ButN.but (same_but s1)).trans (ButN.but b2)
    clear s1 hl0 hx1 big hP hz ht hT b2
    have done : ∀ H' : Hp, LamX.ExtN H2 H' → LamX.Tabs T0 H' → Q (.bl true) H' := fun H' e T' => k H' ((P2.ext e).more (by omega) (by omega)) (b02.trans (.ext e)) T'
    refine ⟨_, rfl, t, rfl, ⟨_, ht2⟩, fun D hD => ?_⟩
    refine ZK.lc_growT (K := K) (a := t) (xs := ms.map V.int) (small1000 (by rw [List.length_map]; omega)) (fun _ H' => Same H2 H') (fun i y => y = .int (ms.getD i 0 * d)) (same_new (Same.refl _) _ hD) (fun i H' s' => sqT_same s' ht2) ?_ ?_
    · intro i x H3 acc hx1 s3 hacc hal hR Qn hq
      obtain ⟨hi, rfl⟩ := int_at hx1
      exact ⟨rfl, _, rfl, _, rfl, _, _, rfl, rfl, (hx.get i).mulOk dz (by omega), hq _ _ rfl hacc (same_but_new s3 hD)⟩
    intro H3 acc s3 hacc hal hR
    have e3 := ZK.eq_map hal hR
    have hm : H3 D = some (.lst ((M.times ms d).map V.int)) := by rw [hacc, e3, List.length_map, range_ints ms fun a => a * d]; rfl
    refine fun zm dm nzm ndm nem => madeQ (.inl (SqL.of hm)) (by rw [M.times_len]; omega) nzm ndm nem fun H4 s4 hzm => ⟨rfl, ?_⟩
    have s24 := s3.trans s4
    have xm : SzA 1210 (M.cut (M.times ms d)) := (hx.times dz).cut
    have dv : ∀ x ∈ M.cut (M.times ms d), d ∣ x := fun x hx2 => by
      obtain ⟨y, _, rfl⟩ := List.mem_map.mp (List.mem_of_mem_take hx2)
      exact ⟨y, Int.mul_comm _ _⟩
    obtain ⟨dy, ty, gy, gyt, gyl⟩ := id hzm
    refine ⟨_, rfl, _, rfl, zm, dy, _, d, rfl, rfl, gy, zm, _, d, rfl, hzm, ?_, xm.mono (by omega), d0, dz.mono (by omega), fun _ zq H5 s5 nzq hzq => ?_, fun no => absurd dv no⟩
    · have := cut_len (M.times ms d)
      rw [M.times_len] at this
      omega
    have eq1 : M.cut ((M.cut (M.times ms d)).map fun x => x.fdiv d) = ms := by
      refine (M.cut_unique fun n => ?_).trans hcut
      refine Int.eq_of_mul_eq_mul_right d0 ?_
      rw [M.fdiv_val dv, M.cut_val, M.times_val]
    rw [eq1] at hzq
    have s25 := s24.trans s5
    refine ⟨_, rfl, zq, t, ms, rfl, hzq, sqT_same s25 ht2, fun H6 s6 => ⟨true, rfl, iteF ?_⟩⟩
    have s26 := s25.trans s6
    clear hzq s25 s24 s5 gy gyt gyl hzm xm dv hm e3 hacc hR s4 s6 nzq nzm hal hD
    have ht6 := sqT_same s26 ht2
    have hz6 := hz2.same s26
    refine ⟨_, rfl, t, rfl, ⟨_, ht6⟩, fun D hD => ?_⟩
    refine ZK.lc_growT (K := K) (a := t) (xs := ms.map V.int) (small1000 (by rw [List.length_map]; omega)) (fun _ H' => Same H6 H') (fun i y => y = .bl (decide (d ∣ ms.getD i 0))) (same_new (Same.refl _) _ hD) (fun i H' s' => sqT_same s' ht6) ?_ ?_
    · intro i x H3 acc hx1 s3 hacc hal hR Qn hq
      obtain ⟨hi, rfl⟩ := int_at hx1
      refine ⟨rfl, _, rfl, .inl ⟨_, rfl, _, rfl, _, _, rfl, rfl, d0, rfl, hq _ _ ?_ hacc (same_but_new s3 hD)⟩⟩
      refine congrArg V.bl ?_
      by_cases hv : d ∣ ms.getD i 0
      · rw [decide_eq_true hv]
        exact decide_eq_true (congrArg V.int (Int.fmod_eq_zero_of_dvd hv))
      · rw [decide_eq_false hv]
        exact decide_eq_false fun q => hv (Int.dvd_of_fmod_eq_zero (V.int.inj q))
    intro H7 acc s7 hacc hal hR
    have e7 := ZK.eq_map hal hR
    refine ⟨D, (List.range (ms.map V.int).length).map fun i => decide (d ∣ ms.getD i 0), rfl, SqL.of (by rw [hacc, e7, List.map_map]; rfl), _, rfl, ?_⟩
    have s27 := s26.trans s7
    have hz7 := hz6.same s7
    have ht7 := sqT_same s7 ht6
    have hT7 : LamX.Tabs T0 H7 := hT2.ext s27
    obtain ⟨dz7, tz7, gz7, gzt7, gzl7⟩ := id hz7
    by_cases hall : ∀ x ∈ ms, d ∣ x
    · have e2 : ((List.range (ms.map V.int).length).map fun i => decide (d ∣ ms.getD i 0)).all id = true := by
        rw [List.all_eq_true]
        intro b hb
        obtain ⟨i, hi, rfl⟩ := List.mem_map.mp hb
        rw [List.mem_range, List.length_map] at hi
        exact decide_eq_true (hall (ms.getD i 0) (by rw [List.getD_eq_getElem?_getD, List.getElem?_eq_getElem hi]; exact List.getElem_mem hi))
      rw [e2]
      refine iteT ⟨_, rfl, _, rfl, z, dz7, _, d, rfl, rfl, gz7, z, ms, d, rfl, hz7, by omega, hx.mono (by omega), d0, dz.mono (by omega), fun _ zr H8 s8 nzr hzr => ?_, fun no => absurd hall no⟩
      refine ⟨_, rfl, t, rfl, ⟨_, sqT_same s8 ht7⟩, fun D2 hD2 => ?_⟩
      refine ZK.lc_growT (K := K) (a := t) (xs := ms.map V.int) (small1000 (by rw [List.length_map]; omega)) (fun _ H' => Same H8 H') (fun i y => y = .int ((ms.getD i 0).fdiv d)) (same_new (Same.refl _) _ hD2) (fun i H' s' => sqT_same s' (sqT_same s8 ht7)) ?_ ?_
      · intro i x H9 acc2 hx1 s9 hacc2 hal2 hR2 Qn hq
        obtain ⟨hi, rfl⟩ := int_at hx1
        exact ⟨rfl, _, rfl, _, rfl, _, _, rfl, rfl, ZK.divZ d0 dz (by omega), hq _ _ rfl hacc2 (same_but_new s9 hD2)⟩
      intro H9 acc2 s9 hacc2 hal2 hR2
      have e9 := ZK.eq_map hal2 hR2
      have hm9 : SqL K H9 D2 ((ms.map fun x => x.fdiv d).map V.int) := SqL.of (by rw [hacc2, e9, List.length_map, range_ints ms fun x => x.fdiv d])
      refine ⟨D2, _, rfl, .inl ⟨hm9, fun t2 nt2 => ?_⟩⟩
      have s10 := same_new (Same.refl H9) (.tup ((ms.map fun x => x.fdiv d).map V.int)) nt2
      have ht10 : SqT K (upd H9 t2 (.tup ((ms.map fun x => x.fdiv d).map V.int))) t2 ((ms.map fun x => x.fdiv d).map V.int) := SqT.of upd_same
      have ecut : M.cut (ms.map fun x => x.fdiv d) = ms.map fun x => x.fdiv d := by
        rw [M.cut_map fun x hx => M.fdiv_zero (hall x hx), hcut]
      rw [ecut] at hzr
      exact ⟨zr, t2, _, rfl, hzr.same (s9.trans s10), ht10, fun H11 s11 => done H11 (ext_same ((((s27.trans s8).trans s9).trans s10).trans s11)) (hT7.ext (((s8.trans s9).trans s10).trans s11))⟩
    · have e2 : ((List.range (ms.map V.int).length).map fun i => decide (d ∣ ms.getD i 0)).all id = false := by
        obtain ⟨x, hx, hn⟩ : ∃ x, x ∈ ms ∧ ¬ d ∣ x := by
          false_or_by_contra
          rename_i hno
          exact hall fun x hx => Classical.byContradiction fun hn => hno ⟨x, hx, hn⟩
        obtain ⟨i, hi, rfl⟩ := List.getElem_of_mem hx
        rw [List.all_eq_false]
        refine ⟨false, List.mem_map.mpr ⟨i, List.mem_range.mpr (by rw [List.length_map]; exact hi), ?_⟩, by decide⟩
        rw [List.getD_eq_getElem?_getD, List.getElem?_eq_getElem hi]
        exact decide_eq_false hn
      rw [e2]
      refine iteF ?_
      refine ⟨hT7, fun H8 e8 T8 => ?_⟩
      refine ⟨_, rfl, _, rfl, z, dz7, _, d, rfl, rfl, e8 _ _ gz7 (fun ps q => by cases q), z, ms, d, rfl, ?_, by omega, hx.mono (by omega), d0, dz.mono (by omega), fun yes => absurd yes hall, fun _ dd H9 s9 ndd hdd => ?_⟩
      · exact ⟨dz7, tz7, e8 _ _ gz7 (fun ps q => by cases q), ext_sqT e8 gzt7, gzl7⟩
      · refine .inr (.inl ⟨rfl, dd, .int d, rfl, hdd, fun te nte => ?_⟩)
        have s10 := same_new (Same.refl H9) (.tup [.str "exact", .int d]) nte
        have h10 : (upd H9 te (.tup [.str "exact", .int d])) te = some (.tup [.str "exact", .int d]) := upd_same
        generalize upd H9 te (.tup [.str "exact", .int d]) = H10 at s10 h10 ⊢
        refine ⟨_, rfl, (by show 2 ≤ sizeLine; decide), fun t3 nt3 => ?_⟩
        have s11 := same_new (Same.refl H10) (.tup [.str "exact", .int d]) nt3
        refine ⟨.tuple [.str "exact", .int d], .tuple [.str "exact", .int d], ?_, ?_, ?_, ?_, ?_⟩
        · exact .tup (sqT_same s11 (SqT.of h10)) (.cons (.str _) (.cons (.int _) .nil))
        · exact .tup (SqT.of upd_same) (.cons (.str _) (.cons (.int _) .nil))
        · simp [SeqAt.shaped, PyData.canLay0, PyData.depth, PyData.canLayAll0, PyData.depthAll, (show PyData.strOk "exact" = true by decide +kernel)]
        · simp [SeqAt.shaped, PyData.canLay0, PyData.depth, PyData.canLayAll0, PyData.depthAll, (show PyData.strOk "exact" = true by decide +kernel)]
        · have e : PyData.eqv (.tuple [.str "exact", .int d]) (.tuple [.str "exact", .int d]) = true := by simp [PyData.eqv, PyData.eqvAll]
          rw [e]
          exact done _ ((((ext_same s27).trans e8).trans (ext_same (s9.trans s10))).trans (ext_same s11)) (T8.ext ((s9.trans s10).trans s11))
end
end EN

namespace EN
open PySem L2 PyProof.Rows
section
variable {P : Program} {w : World} {K : PySem.W.Frag} {mg : Str → Option Value} {base : Heap} {f : Addr} {fd : FuncData}
/-- a size and its due row -/
def DueF (K : PySem.W.Frag) (C : Addr) (H : Hp) (v : V) : Prop := ∃ (t z u : Addr) (R S : List Int), v = .ref t ∧ SqT K H t [.ref z, .ref u] ∧ SizeAt K C H z (M.cut R) ∧ SqT K H u ((M.cut S).map V.int) ∧ ∀ n, M.val R n = M.val S n
theorem DueF.same {C : Addr} {H H' : Hp} {v : V} (h : DueF K C H v) (s : Same H H') : DueF K C H' v := by
  obtain ⟨t, z, u, R, S, e, a, b, c, d⟩ := h
  exact ⟨t, z, u, R, S, e, sqT_same s a, b.same s, sqT_same s c, d⟩
/-- what is known as the law goes on -/
structure Ctx (K : PySem.W.Frag) (C p c : Addr) (ns : List Int) (B : Nat) (T0 : List (Addr × Str)) (ts zs : List (Addr × List Int)) (ls : List (Addr × List V)) (ds : List V) (H : Hp) : Prop where
  pen : Pen H p c ns B
  tabs : LamX.Tabs T0 H
  tu : ∀ q ∈ ts, SqT K H q.1 (q.2.map V.int)
  sz : ∀ q ∈ zs, SizeAt K C H q.1 q.2
  li : ∀ q ∈ ls, H q.1 = some (.lst q.2)
  lc : ∀ q ∈ ls, q.1 ≠ c
  du : ∀ v ∈ ds, DueF K C H v
section
variable {C p c : Addr} {ns : List Int} {B : Nat} {T0 : List (Addr × Str)} {ts zs : List (Addr × List Int)} {ls : List (Addr × List V)} {ds : List V} {H H' : Hp}
theorem Ctx.t (L : Ctx K C p c ns B T0 ts zs ls ds H) {t : Addr} {r : List Int} (h : (t, r) ∈ ts) : SqT K H t (r.map V.int) := L.tu _ h
theorem Ctx.z (L : Ctx K C p c ns B T0 ts zs ls ds H) {t : Addr} {r : List Int} (h : (t, r) ∈ zs) : SizeAt K C H t r := L.sz _ h
theorem Ctx.l (L : Ctx K C p c ns B T0 ts zs ls ds H) {t : Addr} {r : List V} (h : (t, r) ∈ ls) : H t = some (.lst r) := L.li _ h
theorem Ctx.same (L : Ctx K C p c ns B T0 ts zs ls ds H) (s : Same H H') : Ctx K C p c ns B T0 ts zs ls ds H' :=
  ⟨L.pen.same s, L.tabs.ext s, fun q hq => sqT_same s (L.tu q hq), fun q hq => (L.sz q hq).same s, fun q hq => s _ _ (L.li q hq), L.lc, fun v hv => (L.du v hv).same s⟩
theorem Ctx.draw {B' : Nat} (L : Ctx K C p c ns B T0 ts zs ls ds H) (P : Pen H' p c ns B') (b : But p H H') (n0 : ls = []) (n1 : ds = []) : Ctx K C p c ns B' T0 ts zs ls ds H' := by
  subst n0 n1
  exact ⟨P, L.pen.tabs b L.tabs, fun q hq => L.pen.sqT b (L.tu q hq), fun q hq => L.pen.size b (L.sz q hq), fun q hq => by simp at hq, fun q hq => by simp at hq, fun v hv => by simp at hv⟩
theorem Ctx.addT (L : Ctx K C p c ns B T0 ts zs ls ds H) {t : Addr} {r : List Int} (h : SqT K H t (r.map V.int)) : Ctx K C p c ns B T0 ((t, r) :: ts) zs ls ds H :=
  ⟨L.pen, L.tabs, fun q hq => by
    rcases List.mem_cons.mp hq with rfl | e
    · exact h
    · exact L.tu q e, L.sz, L.li, L.lc, L.du⟩
theorem Ctx.addZ (L : Ctx K C p c ns B T0 ts zs ls ds H) {z : Addr} {r : List Int} (h : SizeAt K C H z r) : Ctx K C p c ns B T0 ts ((z, r) :: zs) ls ds H :=
  ⟨L.pen, L.tabs, L.tu, fun q hq => by
    rcases List.mem_cons.mp hq with rfl | e
    · exact h
    · exact L.sz q e, L.li, L.lc, L.du⟩
theorem Ctx.setL (L : Ctx K C p c ns B T0 ts zs ls ds H) {l : Addr} {xs : List V} (h : H l = some (.lst xs)) (n : l ≠ c) : Ctx K C p c ns B T0 ts zs [(l, xs)] ds H :=
  ⟨L.pen, L.tabs, L.tu, L.sz, fun q hq => by rw [List.mem_singleton.mp hq]; exact h, fun q hq => by rw [List.mem_singleton.mp hq]; exact n, L.du⟩
/-- a new pair of a size and a row -/
theorem Ctx.pair (L : Ctx K C p c ns B T0 ts zs ls ds H) {t z u : Addr} {R S : List Int} (nt : H t = none) (hz : SizeAt K C H z (M.cut R)) (hu : SqT K H u ((M.cut S).map V.int)) (e : ∀ n, M.val R n = M.val S n) : Ctx K C p c ns B T0 ts zs ls (.ref t :: ds) (upd H t (.tup [.ref z, .ref u])) := by
  have s := same_new (Same.refl H) (.tup [.ref z, .ref u]) nt
  have L2 := L.same s
  refine ⟨L2.pen, L2.tabs, L2.tu, L2.sz, L2.li, L2.lc, fun v hv => ?_⟩
  rcases List.mem_cons.mp hv with rfl | h
  · exact ⟨t, z, u, R, S, rfl, SqT.of upd_same, hz.same s, sqT_same s hu, e⟩
  · exact L2.du v h
theorem Ctx.less {ts' zs' : List (Addr × List Int)} (L : Ctx K C p c ns B T0 ts zs ls ds H) (h1 : ∀ q ∈ ts', q ∈ ts) (h2 : ∀ q ∈ zs', q ∈ zs) : Ctx K C p c ns B T0 ts' zs' ls ds H := ⟨L.pen, L.tabs, fun q hq => L.tu q (h1 q hq), fun q hq => L.sz q (h2 q hq), L.li, L.lc, L.du⟩
theorem sqT_updL {l a : Addr} {xs : List V} {o : HO} {ys : List V} (hl : H l = some (.lst ys)) (h : SqT K H a xs) : SqT K (upd H l o) a xs :=
  sqT_but (p := l) (fun b u e n => by rw [upd_ne n]; exact e) (fun u e => by rw [hl] at e; cases e; exact ⟨(by intro q; cases q), (by intro u q; cases q)⟩) h
theorem size_updL {l s : Addr} {o : HO} {ys : List V} {ms : List Int} (hl : H l = some (.lst ys)) (h : SizeAt K C H s ms) : SizeAt K C (upd H l o) s ms := by
  obtain ⟨dx, t, h1, h2, h3⟩ := h
  exact ⟨dx, t, by rw [upd_ne (ne_of h1 hl (by intro q; cases q))]; exact h1, sqT_updL hl h2, h3⟩
/-- one more at the list's end -/
theorem Ctx.app {l : Addr} {xs : List V} {v : V} (L : Ctx K C p c ns B T0 ts zs [(l, xs)] ds H) : Ctx K C p c ns B T0 ts zs [(l, xs ++ [v])] ds (upd H l (.lst (xs ++ [v]))) := by
  have hl := L.l (t := l) (r := xs) (by simp)
  have nc := L.lc (l, xs) (by simp)
  refine ⟨?_, fun q hq => ?_, fun q hq => sqT_updL hl (L.tu q hq), fun q hq => size_updL hl (L.sz q hq), fun q hq => by rw [List.mem_singleton.mp hq]; exact upd_same, fun q hq => by rw [List.mem_singleton.mp hq]; exact nc, fun w hw => ?_⟩
  · obtain ⟨b, r, e, _⟩ := L.pen.at_
    exact L.pen.stay (upd_ne (ne_of e hl (by intro q; cases q))) (upd_ne (Ne.symm nc))
  · obtain ⟨ps, h1, h2, h3⟩ := L.tabs q hq
    refine ⟨ps, by rw [upd_ne (ne_of h1 hl (by intro q; cases q))]; exact h1, h2, fun pos cv hc => ?_⟩
    obtain ⟨c2, e1, e2⟩ := h3 pos cv hc
    exact ⟨c2, e1, by rw [upd_ne (ne_of e2 hl (by intro q; unfold LamX.CodeO at q; cases q))]; exact e2⟩
  · obtain ⟨t, z, u, R, S, e, a, b, c, d⟩ := L.du w hw
    exact ⟨t, z, u, R, S, e, sqT_updL hl a, size_updL hl b, sqT_updL hl c, d⟩
end
section
variable {C : Addr} {H : Hp} {z1 z2 : Addr} {ms ns : List Int} {op : List Int → List Int → List Int} {ok : List Int → List Int → Prop} {Q : VK} {i : Int}
theorem oo2 (h1 : SizeAt K C H z1 ms) (h2 : SizeAt K C H z2 ns) (o : ok ms ns) (k : ∀ (z : Addr) (H' : Hp), Same H H' → SizeAt K C H' z (M.cut (op ms ns)) → Q (.ref z) H') : EO.rOO C (spS2 K C op ok) (.ref z1) (.ref z2) H Q := by
  obtain ⟨dx, t, e1, e2, e3⟩ := id h1
  obtain ⟨dy, u, g1, g2, g3⟩ := id h2
  exact ⟨z1, dx, _, z2, dy, _, rfl, rfl, e1, g1, z1, .ref z2, ms, ns, rfl, h1, .inl ⟨z2, rfl, h2⟩, o, fun z H' s _ hz => k z H' s hz⟩
theorem oi2 (h1 : SizeAt K C H z1 ms) (o : ok ms [i]) (k : ∀ (z : Addr) (H' : Hp), Same H H' → SizeAt K C H' z (M.cut (op ms [i])) → Q (.ref z) H') : EO.rOI C (spS2 K C op ok) (.ref z1) (.int i) H Q := by
  obtain ⟨dx, t, e1, e2, e3⟩ := id h1
  exact ⟨z1, dx, _, i, rfl, rfl, e1, z1, .int i, ms, [i], rfl, h1, .inr ⟨i, rfl, rfl⟩, o, fun z H' s _ hz => k z H' s hz⟩
theorem io2 (h1 : SizeAt K C H z1 ms) (o : ok ms [i]) (k : ∀ (z : Addr) (H' : Hp), Same H H' → SizeAt K C H' z (M.cut (op ms [i])) → Q (.ref z) H') : EO.rIO C (spRI K C op ok) (.int i) (.ref z1) H Q := by
  obtain ⟨dx, t, e1, e2, e3⟩ := id h1
  exact ⟨i, z1, dx, _, rfl, rfl, e1, z1, i, ms, rfl, h1, o, fun z H' s _ hz => k z H' s hz⟩
theorem u1 (h1 : SizeAt K C H z1 ms) (l : ms.length ≤ 900) (x : SzA 800000 ms) (k : ∀ (z : Addr) (H' : Hp), Same H H' → SizeAt K C H' z (M.cut (M.times ms (-1))) → Q (.ref z) H') : EO.rU1 C (spNeg K C) (.ref z1) H Q := by
  obtain ⟨dx, t, e1, e2, e3⟩ := id h1
  exact ⟨z1, dx, _, rfl, e1, z1, ms, rfl, h1, l, x, fun z H' s _ hz => k z H' s hz⟩
theorem mv1 {sg : Int} (h1 : SizeAt K C H z1 ms) (l : ms.length ≤ 16) (x : SzA 200000 ms) (hi : Sz 9000 i) (k : ∀ (z : Addr) (H' : Hp), Same H H' → SizeAt K C H' z (M.cut (M.ah ms (sg * i))) → Q (.ref z) H') : EO.rOI C (spMove K C sg) (.ref z1) (.int i) H Q := by
  obtain ⟨dx, t, e1, e2, e3⟩ := id h1
  exact ⟨z1, dx, _, i, rfl, rfl, e1, z1, ms, i, rfl, h1, l, x, hi, fun z H' s _ hz => k z H' s hz⟩
theorem pw1 {e : Nat} (h1 : SizeAt K C H z1 ms) (l : ms.length ≤ 4) (x : SzA 10000 ms) (he : e ≤ 3) (hi : i = (e : Int)) (k : ∀ (z : Addr) (R : List Int) (H' : Hp), Same H H' → SizeAt K C H' z (M.cut R) → (∀ n, M.val R n = M.val ms n ^ e) → Q (.ref z) H') : EO.rOI C (spPow K C) (.ref z1) (.int i) H Q := by
  obtain ⟨dx, t, e1, e2, e3⟩ := id h1
  subst hi
  exact ⟨z1, dx, _, _, rfl, rfl, e1, z1, ms, e, rfl, h1, l, x, he, fun z R H' s _ hz hv => k z R H' s hz hv⟩
end
theorem cutV_take {xs : List V} (d : Nat) : cutV xs none (some (d : Int)) = xs.take d := by
  unfold cutV
  rw [show HT.sIx xs.length 0 none = 0 from rfl, HT.sIx_nat, List.drop_zero, Nat.sub_zero]
  by_cases h : d ≤ xs.length
  · rw [Nat.min_eq_left h]
  · rw [Nat.min_eq_right (by omega), List.take_length, List.take_of_length_le (by omega)]
theorem val_one (a n : Int) : M.val [a] n = a := by rw [M.val_cons]; exact Int.add_zero a
theorem neg_times (r : List Int) : r.map (fun x => -x) = M.times r (-1) := List.map_congr_left fun x _ => by omega
theorem cut_neg {r : List Int} (h : M.cut r = r) : M.cut (M.times r (-1)) = M.times r (-1) := by
  rw [← neg_times, M.cut_map fun x _ => by omega, h]
theorem sz_one {c : Nat} {a : Int} (h : Sz c a) : SzA c [a] := fun x hx => by rw [List.mem_singleton.mp hx]; exact h
end
end EN

namespace EN
open PySem L2 PyProof.Rows
section
variable {P : Program} {w : World} {K : PySem.W.Frag} {mg : Str → Option Value} {base : Heap} {f : Addr} {fd : FuncData}
abbrev s_law : Stmt := top 54
abbrev N_law : List Str := ["_law_script", "_law_pen_here", "_law_again", "_law_row_here", "_law_other", "_law_one", "_law_two", "_law_amount", "_law_by", "_law_flat", "_law_away", "_law_dues", "_law_low", "_law_square", "_law_part", "_law_size", "_law_due", "_law_n"]
theorem sc_law : FnScope N_law ["_law_script"] (defScope s_law) := ⟨rfl, rfl, rfl, by decide +kernel, rfl, by decide +kernel, by decide +kernel⟩

def forBody : Stmt → List Stmt
  | .For _ _ b _ _ => b
  | _ => []
abbrev lawTail : List Stmt := (forBody ((defBody s_law).getD 1 (.Pass ⟨0, 0, 0, 0⟩))).drop 16
/-- what stands when the law's last tests begin -/
structure TailC (K : PySem.W.Frag) (C p c : Addr) (ns : List Int) (B : Nat) (T0 : List (Addr × Str)) (t u z1 z2 fl : Addr) (rr oo : List Int) (am : Int) (H : Hp) : Prop where
  pen : Pen H p c ns B
  b : B + 5 ≤ 1000000000
  tabs : LamX.Tabs T0 H
  ht : SqT K H t (rr.map V.int)
  hu : SqT K H u (oo.map V.int)
  hf : SqT K H fl ((M.cut [am]).map V.int)
  h1 : SizeAt K C H z1 rr
  h2 : SizeAt K C H z2 oo
  cr : M.cut rr = rr
  co : M.cut oo = oo
  lr : rr.length ≤ 6
  lo : oo.length ≤ 6
  xr : SzA 200 rr
  xo : SzA 200 oo
theorem TailC.same {C p c : Addr} {ns : List Int} {B : Nat} {T0 : List (Addr × Str)} {t u z1 z2 fl : Addr} {rr oo : List Int} {am : Int} {H H' : Hp} (L : TailC K C p c ns B T0 t u z1 z2 fl rr oo am H) (s : Same H H') : TailC K C p c ns B T0 t u z1 z2 fl rr oo am H' :=
  ⟨L.pen.same s, L.b, L.tabs.ext s, sqT_same s L.ht, sqT_same s L.hu, sqT_same s L.hf, L.h1.same s, L.h2.same s, L.cr, L.co, L.lr, L.lo, L.xr, L.xo⟩
theorem Pen.sizeN {C : Addr} {H H' : Hp} {p c s : Addr} {ns : List Int} {B : Nat} {ms : List Int} (P : Pen H p c ns B) (e : ButN p H H') (h : SizeAt K C H s ms) : SizeAt K C H' s ms := by
  obtain ⟨dx, t, h1, h2, h3⟩ := h
  obtain ⟨b, r, q, _⟩ := P.at_
  exact ⟨dx, t, e _ _ h1 (fun z => by rw [z, q] at h1; cases h1) (fun ps z => by cases z), P.sqTN e h2, h3⟩
theorem tail_law {C_Size : Addr} {T0 : List (Addr × Str)} (T : Blt mg) (g_Size : mg "Size" = some (.ref C_Size)) (sf_Size : PySem.W.selfFirst K C_Size = true) (si_Size : PySem.W.subIn K (.type "int") (.ref C_Size) = some false) (is_Size : PySem.W.subIn K (.ref C_Size) (.type "int") = some false) (ne_Size : EO.NeObj K C_Size)
    (mx_Size_add : EO.Mix K C_Size "int" "add") (mx_Size_sub : EO.Mix K C_Size "int" "sub") (mx_Size_mul : EO.Mix K C_Size "int" "mul") (mx_Size_rshift : EO.Mix K C_Size "int" "rshift") (mx_Size_lshift : EO.Mix K C_Size "int" "lshift") (mx_Size_pow : EO.Mix K C_Size "int" "pow")
    {ga gs gm : Addr} (at_Size_add : PySem.W.findIn K (.ref C_Size) "__add__" = some (some (.ref ga))) (at_Size_sub : PySem.W.findIn K (.ref C_Size) "__sub__" = some (some (.ref gs))) (at_Size_mul : PySem.W.findIn K (.ref C_Size) "__mul__" = some (some (.ref gm)))
    (G_pen : Has P w K mg base 1 "_law_pen" ["_law_script"] (spPen K)) (G_draw : Has P w K mg base 1 "_law_draw" ["_law_pen_here", "_law_many"] spDraw) (G_integer : Has P w K mg base 3 "_law_integer" ["_law_pen_here"] spInteger) (G_lrow : Has P w K mg base 4 "_law_row" ["_law_pen_here", "_law_most"] spRow)
    (G_cut : Has P w K mg base 1 "_law_cut" ["_law_row_here"] (spCut K)) (G_lplus : Has P w K mg base 2 "_law_plus" ["_law_one", "_law_two"] (spLPlus K)) (G_ltimes : Has P w K mg base 3 "_law_times" ["_law_one", "_law_two"] (spLTimes K)) (G_lrowof : Has P w K mg base 2 "_law_row_of" ["_law_amounts"] (spRowOf K))
    (G_lat : Has P w K mg base 2 "_law_at" ["_law_row_here", "_law_n"] (spAt K)) (G_sizeis : Has P w K mg base 2 "_law_size_is" ["_law_size", "_law_row_here"] (spSizeIs K C_Size)) (G_ldivided : Has P w K mg base 8 "_law_divided" ["_law_pen_here", "_law_size", "_law_row_here"] (spDivided K C_Size T0))
    (G_Size : MkH P w K mg base 3 C_Size [] (spSInit K C_Size)) (G_Size_add : EO.OpH P w K mg base 5 C_Size "__add__" (spS2 K C_Size M.plus okAdd)) (G_Size_sub : EO.OpH P w K mg base 5 C_Size "__sub__" (spS2 K C_Size M.less okSub)) (G_Size_mul : EO.OpH P w K mg base 5 C_Size "__mul__" (spS2 K C_Size M.prod okMul))
    (G_Size_neg : EO.OpH P w K mg base 5 C_Size "__neg__" (spNeg K C_Size)) (G_Size_radd : EO.OpH P w K mg base 6 C_Size "__radd__" (spRI K C_Size M.plus okAdd)) (G_Size_rsub : EO.OpH P w K mg base 6 C_Size "__rsub__" (spRI K C_Size rsub okRsub)) (G_Size_rmul : EO.OpH P w K mg base 6 C_Size "__rmul__" (spRI K C_Size M.prod okMul))
    (G_Size_rshift : EO.OpH P w K mg base 5 C_Size "__rshift__" (spMove K C_Size (-1))) (G_Size_lshift : EO.OpH P w K mg base 5 C_Size "__lshift__" (spMove K C_Size 1)) (G_Size_pow : EO.OpH P w K mg base 5 C_Size "__pow__" (spPow K C_Size)) (G_Size_eq : EO.OpH P w K mg base 1 C_Size "__eq__" (spSEq K C_Size)) (G_Size_eqi : EO.OpH P w K mg base 1 C_Size "__eq__" (spSEqI K C_Size))
    {A : Around} {outer : List Env} {s : Shared} {H : Hp} {E : XK} {cdv : Value} (hr : Room 8 (A.deeper (envOfC "law" (defScope s_law) s.heap.objs.size f cdv))) :
    ∃ tt, PSs (cxOf CX0 P w K mg base N_law "law" (defScope s_law) f cdv A outer s H E).nox lawTail tt ∧ ∀ (D : Ends) (H1 : Hp) (a p c t u z1 z2 fl : Addr) (ns rr oo : List Int) (am by_ : Int) (B : Nat) (v2 v10 v11 v12 v13 v14 v15 v16 v17 : Option V),
      TailC K C_Size p c ns B T0 t u z1 z2 fl rr oo am H1 → (∀ H2 : Hp, Pen H2 p c ns (B + 5) → LamX.Tabs T0 H2 → D.nx [some (.ref a), some (.ref p), v2, some (.ref t), some (.ref u), some (.ref z1), some (.ref z2), some (.int am), some (.int by_), some (.ref fl), v10, v11, v12, v13, v14, v15, v16, v17] H2) →
      tt D [some (.ref a), some (.ref p), v2, some (.ref t), some (.ref u), some (.ref z1), some (.ref z2), some (.int am), some (.int by_), some (.ref fl), v10, v11, v12, v13, v14, v15, v16, v17] H1 := by
  refine ⟨_, (pss_cons (ps_if (PW.pt (pw_or (pt_cmpR op_ne (pe_cmpR (EO.op_coo (by decide) G_Size_eq (hr.mono (by decide))) (pv 5) (pv 6) (nomark _)) (pe_cmpR (show OpR _ _ (rEqD K) from op_eqD hr.units) (pv 3) (pv 4) (nomark _)) (nomark _)) (pw_or (pt_cmpR op_eq (pe_cmpR (EO.op_nee G_Size_eq ne_Size (hr.mono (by decide))) (pv 5) (pv 6) (nomark _)) (pe_cmpR (show OpR _ _ (rEqD K) from op_eqD hr.units) (pv 3) (pv 4) (nomark _)) (nomark _)) (pw_or1 (pt_cmpR (EO.op_nee G_Size_eq ne_Size (hr.mono (by decide))) (pe_mkH G_Size (hr.mono (by decide)) (by rfl) g_Size (pa_cons (pe_op op_cat (pe_callTy (show CallR _ _ (rListQ K) from c_list) (by rfl) T.list_ (by decide +kernel) (pa_cons (pv 3) pa_nil)) (pe_lst (pa_cons pe_int pa_nil))) pa_nil)) (pv 5) (nomark _))))))
      (pss_one (ps_ret pe_bl))
      pss_nil)
    (pss_cons (ps_if (PW.pt (pw_or (pt_cmpR (EO.op_coi (by decide) G_Size_eqi si_Size (hr.mono (by decide))) (pe_mkH G_Size (hr.mono (by decide)) (by rfl) g_Size (pa_cons (pv 9) pa_nil)) (pv 7) (nomark _)) (pw_or1 (pt_not (pt_val (pe_has G_ldivided (hr.mono (by decide)) (pa_cons (pv 1) (pa_cons (pv 5) (pa_cons (pv 3) pa_nil)))))))))
      (pss_one (ps_ret pe_bl))
      pss_nil)
    (pss_one (ps_if (PW.pt (pw_or (pt_not (pt_val (pe_has G_sizeis (hr.mono (by decide)) (pa_cons (pv 5) (pa_cons (pv 3) pa_nil))))) (pw_or1 (pt_not (pt_val (pe_has G_sizeis (hr.mono (by decide)) (pa_cons (pv 6) (pa_cons (pv 4) pa_nil))))))))
      (pss_one (ps_ret pe_bl))
      pss_nil)))), ?_⟩
  intro D H1 a p c t u z1 z2 fl ns rr oo am by_ B v2 v10 v11 v12 v13 v14 v15 v16 v17 L k
  obtain ⟨dx1, r1, e1, _, _⟩ := id L.h1
  obtain ⟨dx2, r2, e2, _, _⟩ := id L.h2
  refine ⟨_, rfl, _, rfl, z1, dx1, _, z2, dx2, _, rfl, rfl, e1, e2, z1, z2, rr, oo, rfl, L.h1, L.h2, _, rfl, _, rfl, _, _, dp_tup L.ht, dp_tup L.hu, shaped_tup _, shaped_tup _, ?_⟩
  rw [eqv_tup]
  refine ⟨rfl, false, congrArg V.bl (by simp), iteF ?_⟩
  refine ⟨_, rfl, _, rfl, z1, dx1, _, z2, dx2, _, rfl, rfl, e1, e2, z1, z2, rr, oo, rfl, L.h1, L.h2, _, rfl, _, rfl, _, rfl, _, _, dp_tup L.ht, dp_tup L.hu, shaped_tup _, shaped_tup _, ?_⟩
  rw [eqv_tup]
  refine ⟨rfl, false, congrArg V.bl (by cases decide (rr = oo) <;> simp), iteF ?_⟩
  refine ⟨_, rfl, t, _, rfl, .inr L.ht, fun l nl => ⟨(by show 1 ≤ sizeLine; decide), fun b nb => ?_⟩⟩
  have s2 := same_new (same_new (Same.refl H1) (.lst (rr.map V.int)) nl) (.lst [.int 0]) nb
  refine ⟨l, b, _, _, rfl, rfl, by rw [upd_ne (ne_of_none upd_same nb)]; exact upd_same, upd_same, (by have := L.lr; exact small1000 (by simp; omega)), fun q nq => ?_⟩
  have s3 := same_new s2 (.lst (rr.map V.int ++ [.int 0])) nq
  refine fun x dx nx nd ne => madeQ (r := rr ++ [0]) (.inl (SqL.of (by rw [List.map_append]; exact upd_same))) (by have := L.lr; simp; omega) nx nd ne fun H3 s4 hz => ⟨rfl, ?_⟩
  have L3 := L.same (s3.trans s4)
  clear s3 s2 s4
  obtain ⟨dx3, r3, e3, _, _⟩ := id L3.h1
  obtain ⟨dx4, r4, e4, _, _⟩ := id hz
  refine ⟨_, rfl, x, dx4, _, z1, dx3, _, rfl, rfl, e4, e3, x, z1, _, rr, rfl, hz, L3.h1, _, rfl, ?_⟩
  refine ⟨false, by rw [M.cut_snoc, L.cr, decide_eq_true rfl]; rfl, iteF ?_⟩
  clear e3 e4 hz
  refine ⟨_, rfl, fun x2 dx5 nx5 nd5 ne5 => madeQ (.inr L3.hf) (Nat.le_trans (cut_len [am]) (by show 1 ≤ 1000; decide)) nx5 nd5 ne5 fun H5 s5 hz5 => ⟨rfl, ?_⟩⟩
  have L5 := L3.same s5
  obtain ⟨dx6, r6, e6, _, _⟩ := id hz5
  refine ⟨_, rfl, x2, dx6, _, am, rfl, rfl, e6, x2, am, rfl, false, rfl, iteF ?_⟩
  refine ⟨_, rfl, _, rfl, _, rfl, p, c, z1, t, ns, B, rr, rfl, L5.pen, L5.b, L5.h1, L5.ht, L5.cr, by have := L5.lr; omega, L5.xr.mono (by decide), L5.tabs, fun H6 P6 b6 T6 => ⟨true, rfl, iteF ?_⟩⟩
  have h16 := L5.pen.sizeN b6 L5.h1
  have h26 := L5.pen.sizeN b6 L5.h2
  have ht6 := L5.pen.sqTN b6 L5.ht
  have hu6 := L5.pen.sqTN b6 L5.hu
  refine ⟨_, rfl, _, rfl, z1, t, rr, rfl, h16, ht6, fun H7 s7 => ⟨true, rfl, iteF ?_⟩⟩
  refine ⟨_, rfl, _, rfl, z2, u, oo, rfl, h26.same s7, sqT_same s7 hu6, fun H8 s8 => ⟨true, rfl, iteF ?_⟩⟩
  exact k H8 ((P6.same s7).same s8) ((T6.ext s7).ext s8)
end
end EN

namespace EN
open PySem L2 PyProof.Rows
section
variable {P : Program} {w : World} {K : PySem.W.Frag} {mg : Str → Option Value} {base : Heap} {f : Addr} {fd : FuncData}
abbrev lawTail2 : List Stmt := (forBody ((defBody s_law).getD 1 (.Pass ⟨0, 0, 0, 0⟩))).drop 15
theorem tail2_law {C_Size : Addr} {T0 : List (Addr × Str)} (T : Blt mg) (g_Size : mg "Size" = some (.ref C_Size)) (sf_Size : PySem.W.selfFirst K C_Size = true) (si_Size : PySem.W.subIn K (.type "int") (.ref C_Size) = some false) (is_Size : PySem.W.subIn K (.ref C_Size) (.type "int") = some false) (ne_Size : EO.NeObj K C_Size)
    (mx_Size_add : EO.Mix K C_Size "int" "add") (mx_Size_sub : EO.Mix K C_Size "int" "sub") (mx_Size_mul : EO.Mix K C_Size "int" "mul") (mx_Size_rshift : EO.Mix K C_Size "int" "rshift") (mx_Size_lshift : EO.Mix K C_Size "int" "lshift") (mx_Size_pow : EO.Mix K C_Size "int" "pow")
    {ga gs gm : Addr} (at_Size_add : PySem.W.findIn K (.ref C_Size) "__add__" = some (some (.ref ga))) (at_Size_sub : PySem.W.findIn K (.ref C_Size) "__sub__" = some (some (.ref gs))) (at_Size_mul : PySem.W.findIn K (.ref C_Size) "__mul__" = some (some (.ref gm)))
    (G_pen : Has P w K mg base 1 "_law_pen" ["_law_script"] (spPen K)) (G_draw : Has P w K mg base 1 "_law_draw" ["_law_pen_here", "_law_many"] spDraw) (G_integer : Has P w K mg base 3 "_law_integer" ["_law_pen_here"] spInteger) (G_lrow : Has P w K mg base 4 "_law_row" ["_law_pen_here", "_law_most"] spRow)
    (G_cut : Has P w K mg base 1 "_law_cut" ["_law_row_here"] (spCut K)) (G_lplus : Has P w K mg base 2 "_law_plus" ["_law_one", "_law_two"] (spLPlus K)) (G_ltimes : Has P w K mg base 3 "_law_times" ["_law_one", "_law_two"] (spLTimes K)) (G_lrowof : Has P w K mg base 2 "_law_row_of" ["_law_amounts"] (spRowOf K))
    (G_lat : Has P w K mg base 2 "_law_at" ["_law_row_here", "_law_n"] (spAt K)) (G_sizeis : Has P w K mg base 2 "_law_size_is" ["_law_size", "_law_row_here"] (spSizeIs K C_Size)) (G_ldivided : Has P w K mg base 8 "_law_divided" ["_law_pen_here", "_law_size", "_law_row_here"] (spDivided K C_Size T0))
    (G_Size : MkH P w K mg base 3 C_Size [] (spSInit K C_Size)) (G_Size_add : EO.OpH P w K mg base 5 C_Size "__add__" (spS2 K C_Size M.plus okAdd)) (G_Size_sub : EO.OpH P w K mg base 5 C_Size "__sub__" (spS2 K C_Size M.less okSub)) (G_Size_mul : EO.OpH P w K mg base 5 C_Size "__mul__" (spS2 K C_Size M.prod okMul))
    (G_Size_neg : EO.OpH P w K mg base 5 C_Size "__neg__" (spNeg K C_Size)) (G_Size_radd : EO.OpH P w K mg base 6 C_Size "__radd__" (spRI K C_Size M.plus okAdd)) (G_Size_rsub : EO.OpH P w K mg base 6 C_Size "__rsub__" (spRI K C_Size rsub okRsub)) (G_Size_rmul : EO.OpH P w K mg base 6 C_Size "__rmul__" (spRI K C_Size M.prod okMul))
    (G_Size_rshift : EO.OpH P w K mg base 5 C_Size "__rshift__" (spMove K C_Size (-1))) (G_Size_lshift : EO.OpH P w K mg base 5 C_Size "__lshift__" (spMove K C_Size 1)) (G_Size_pow : EO.OpH P w K mg base 5 C_Size "__pow__" (spPow K C_Size)) (G_Size_eq : EO.OpH P w K mg base 1 C_Size "__eq__" (spSEq K C_Size)) (G_Size_eqi : EO.OpH P w K mg base 1 C_Size "__eq__" (spSEqI K C_Size))
    {A : Around} {outer : List Env} {s : Shared} {H : Hp} {E : XK} {cdv : Value} (hr : Room 8 (A.deeper (envOfC "law" (defScope s_law) s.heap.objs.size f cdv))) :
    ∃ tt, PSs (cxOf CX0 P w K mg base N_law "law" (defScope s_law) f cdv A outer s H E).nox lawTail2 tt ∧ ∀ (D : Ends) (H1 : Hp) (a p c t u z1 z2 fl l : Addr) (ns rr oo : List Int) (am by_ : Int) (B : Nat) (ds : List V) (v2 v10 v12 v13 v14 v15 v16 v17 : Option V),
      TailC K C_Size p c ns B T0 t u z1 z2 fl rr oo am H1 → H1 l = some (.lst ds) → (∀ v ∈ ds, DueF K C_Size H1 v) → ds.length ≤ 100 → (∀ H2 : Hp, Pen H2 p c ns (B + 5) → LamX.Tabs T0 H2 → D.nx [some (.ref a), some (.ref p), v2, some (.ref t), some (.ref u), some (.ref z1), some (.ref z2), some (.int am), some (.int by_), some (.ref fl), v10, some (.ref l), v12, v13, v14, v15, v16, v17] H2) →
      tt D [some (.ref a), some (.ref p), v2, some (.ref t), some (.ref u), some (.ref z1), some (.ref z2), some (.int am), some (.int by_), some (.ref fl), v10, some (.ref l), v12, v13, v14, v15, v16, v17] H1 := by
  obtain ⟨tt, htail, hread⟩ := tail_law T g_Size sf_Size si_Size is_Size ne_Size mx_Size_add mx_Size_sub mx_Size_mul mx_Size_rshift mx_Size_lshift mx_Size_pow at_Size_add at_Size_sub at_Size_mul G_pen G_draw G_integer G_lrow G_cut G_lplus G_ltimes G_lrowof G_lat G_sizeis G_ldivided G_Size G_Size_add G_Size_sub G_Size_mul G_Size_neg G_Size_radd G_Size_rsub G_Size_rmul G_Size_rshift G_Size_lshift G_Size_pow G_Size_eq G_Size_eqi (outer := outer) (H := H) (E := E) hr
  refine ⟨_, (pss_cons (ps_if (pt_not (pt_val (pe_callB (show CallR _ _ (rAll K) from cr_all rfl) (by rfl) T.all_ (by decide +kernel) (pa_cons (pe_lc (own := [("_law_size", 15), ("_law_due", 16)]) (g := gTup K 2 (gCons (gName 15) (gCons (gName 16) gNil))) (tt := tYes) (by rfl) sc_law.nd (pi_list (pv 11)) (blkOk_by (own := [("_law_size", 15), ("_law_due", 16)]) (N := N_law) (sc := defScope s_law) (by decide +kernel)) (fun _ _ _ _ _ => (pg_tup rfl (pgs_cons (pg_name (i := 15) sc_law.nd rfl (by first | exact Or.inl rfl | exact Or.inr rfl)) (pgs_cons (pg_name (i := 16) sc_law.nd rfl (by first | exact Or.inl rfl | exact Or.inr rfl)) pgs_nil)))) (fun _ _ _ _ _ => pts_nil) (fun _ _ _ _ _ => (pe_has G_sizeis (hr.mono (by decide)) (pa_cons (pv 15) (pa_cons (pv 16) pa_nil))))) pa_nil))))
      (pss_one (ps_ret pe_bl))
      pss_nil)
    htail), ?_⟩
  intro D H1 a p c t u z1 z2 fl l ns rr oo am by_ B ds v2 v10 v12 v13 v14 v15 v16 v17 L hl hd ln k
  refine ⟨_, rfl, l, rfl, ⟨_, SqL.of hl⟩, fun A1 hA1 => ?_⟩
  refine ZK.lc_growL (K := K) (a := l) (xs := ds) (small1000 (by omega)) (fun _ H' => Same H1 H') (fun i y => y = .bl true) (same_new (Same.refl _) _ hA1) (fun i H' s' => s'.seq (SqL.of hl)) ?_ ?_
  · intro j x H93 acc hx1 s93 hacc hal hR Qn hq
    obtain ⟨tt, z, w, R, S, rfl, q1, q2, q3, q4⟩ := (hd x (List.mem_of_getElem? hx1)).same s93
    refine ⟨tt, _, rfl, q1, rfl, _, _, rfl, _, _, rfl, rfl, rfl, ?_⟩
    exact ⟨_, rfl, _, rfl, z, w, M.cut R, rfl, q2, by rw [M.cut_fun q4 fun _ => rfl]; exact q3, fun H94 s94 => hq _ _ rfl (s94 _ _ hacc) (same_but_new (s93.trans s94) hA1)⟩
  intro H93 acc s93 hacc hal hR
  have e93 := ZK.eq_map hal hR
  refine ⟨A1, (List.range ds.length).map fun _ => true, rfl, SqL.of (by rw [hacc, e93, List.map_map]; rfl), true, by rw [all_true], iteF ?_⟩
  exact hread _ _ _ _ _ _ _ _ _ _ _ _ _ _ _ _ _ _ _ _ _ _ _ _ _ (L.same s93) k
end
end EN

namespace EN
open PySem L2 PyProof.Rows
section
variable {P : Program} {w : World} {K : PySem.W.Frag} {mg : Str → Option Value} {base : Heap} {f : Addr} {fd : FuncData}
def spLawH (K : PySem.W.Frag) (T0 : List (Addr × Str)) : Sp := fun vs H Q _ => ∃ (a : Addr) (ns : List Int), vs = [.ref a] ∧ SqL K H a (ns.map V.int) ∧ ns.length ≤ 63 ∧ LamX.Tabs T0 H ∧ ∀ H' : Hp, Q (.bl true) H'
theorem lit (m : Int) (h0 : 0 < m) (h1 : m < 5000) : m.natAbs < 2 ^ 8000 := Nat.lt_of_lt_of_le (by omega : m.natAbs < 2 ^ 13) (Nat.pow_le_pow_right (by decide) (by decide))
set_option maxHeartbeats 8000000 in
theorem ok_law {C_Size : Addr} {T0 : List (Addr × Str)} (F : Fun K "law" "law" s_law f fd) (T : Blt mg) (g_Size : mg "Size" = some (.ref C_Size)) (sf_Size : PySem.W.selfFirst K C_Size = true) (si_Size : PySem.W.subIn K (.type "int") (.ref C_Size) = some false) (is_Size : PySem.W.subIn K (.ref C_Size) (.type "int") = some false) (ne_Size : EO.NeObj K C_Size)
    (mx_Size_add : EO.Mix K C_Size "int" "add") (mx_Size_sub : EO.Mix K C_Size "int" "sub") (mx_Size_mul : EO.Mix K C_Size "int" "mul") (mx_Size_rshift : EO.Mix K C_Size "int" "rshift") (mx_Size_lshift : EO.Mix K C_Size "int" "lshift") (mx_Size_pow : EO.Mix K C_Size "int" "pow")
    {ga gs gm : Addr} (at_Size_add : PySem.W.findIn K (.ref C_Size) "__add__" = some (some (.ref ga))) (at_Size_sub : PySem.W.findIn K (.ref C_Size) "__sub__" = some (some (.ref gs))) (at_Size_mul : PySem.W.findIn K (.ref C_Size) "__mul__" = some (some (.ref gm)))
    (G_pen : Has P w K mg base 1 "_law_pen" ["_law_script"] (spPen K)) (G_draw : Has P w K mg base 1 "_law_draw" ["_law_pen_here", "_law_many"] spDraw) (G_integer : Has P w K mg base 3 "_law_integer" ["_law_pen_here"] spInteger) (G_lrow : Has P w K mg base 4 "_law_row" ["_law_pen_here", "_law_most"] spRow)
    (G_cut : Has P w K mg base 1 "_law_cut" ["_law_row_here"] (spCut K)) (G_lplus : Has P w K mg base 2 "_law_plus" ["_law_one", "_law_two"] (spLPlus K)) (G_ltimes : Has P w K mg base 3 "_law_times" ["_law_one", "_law_two"] (spLTimes K)) (G_lrowof : Has P w K mg base 2 "_law_row_of" ["_law_amounts"] (spRowOf K))
    (G_lat : Has P w K mg base 2 "_law_at" ["_law_row_here", "_law_n"] (spAt K)) (G_sizeis : Has P w K mg base 2 "_law_size_is" ["_law_size", "_law_row_here"] (spSizeIs K C_Size)) (G_ldivided : Has P w K mg base 8 "_law_divided" ["_law_pen_here", "_law_size", "_law_row_here"] (spDivided K C_Size T0))
    (G_Size : MkH P w K mg base 3 C_Size [] (spSInit K C_Size)) (G_Size_add : EO.OpH P w K mg base 5 C_Size "__add__" (spS2 K C_Size M.plus okAdd)) (G_Size_sub : EO.OpH P w K mg base 5 C_Size "__sub__" (spS2 K C_Size M.less okSub)) (G_Size_mul : EO.OpH P w K mg base 5 C_Size "__mul__" (spS2 K C_Size M.prod okMul))
    (G_Size_neg : EO.OpH P w K mg base 5 C_Size "__neg__" (spNeg K C_Size)) (G_Size_radd : EO.OpH P w K mg base 6 C_Size "__radd__" (spRI K C_Size M.plus okAdd)) (G_Size_rsub : EO.OpH P w K mg base 6 C_Size "__rsub__" (spRI K C_Size rsub okRsub)) (G_Size_rmul : EO.OpH P w K mg base 6 C_Size "__rmul__" (spRI K C_Size M.prod okMul))
    (G_Size_rshift : EO.OpH P w K mg base 5 C_Size "__rshift__" (spMove K C_Size (-1))) (G_Size_lshift : EO.OpH P w K mg base 5 C_Size "__lshift__" (spMove K C_Size 1)) (G_Size_pow : EO.OpH P w K mg base 5 C_Size "__pow__" (spPow K C_Size)) (G_Size_eq : EO.OpH P w K mg base 1 C_Size "__eq__" (spSEq K C_Size)) (G_Size_eqi : EO.OpH P w K mg base 1 C_Size "__eq__" (spSEqI K C_Size)) :
    FnOk P w K mg base CX0 9 f fd ["_law_script"] (spLawH K T0) := by
  refine F.ok sc_law (fun vs H Q E h => ?_) (fun cdv A outer s H vs Q E hr h => ?_)
  · obtain ⟨a, ns, rfl, _⟩ := h
    rfl
  · obtain ⟨a, ns, rfl, hS, hn, hT, k⟩ := h
    obtain ⟨tt, htail, hread⟩ := tail2_law T g_Size sf_Size si_Size is_Size ne_Size mx_Size_add mx_Size_sub mx_Size_mul mx_Size_rshift mx_Size_lshift mx_Size_pow at_Size_add at_Size_sub at_Size_mul G_pen G_draw G_integer G_lrow G_cut G_lplus G_ltimes G_lrowof G_lat G_sizeis G_ldivided G_Size G_Size_add G_Size_sub G_Size_mul G_Size_neg G_Size_radd G_Size_rsub G_Size_rmul G_Size_rshift G_Size_lshift G_Size_pow G_Size_eq G_Size_eqi (outer := outer) (H := H) (E := E) hr
    refine ⟨_, (pss_cons (ps_set (i := 1) sc_law.nd rfl (Or.inl rfl) (pe_has G_pen (hr.mono (by decide)) (pa_cons (pv 0) pa_nil)))
    (pss_cons (ps_for PassesOwn.never rfl (pi_range1 (by rfl) T.range_ (pa_cons (pe_op op_add pe_int (pe_callB (call_min2 rfl) (by rfl) T.min_ (by decide +kernel) (pa_cons pe_int (pa_cons (pe_callB (show CallR _ _ (rLenQ K) from c_len) (by rfl) T.len_ (by decide +kernel) (pa_cons (pv 0) pa_nil)) pa_nil)))) pa_nil)) (pg_name (i := 2) sc_law.nd rfl (Or.inl rfl))
      (pss_cons (ps_asg (pe_tup (pa_cons (pe_has G_cut (hr.mono (by decide)) (pa_cons (pe_has G_lrow (hr.mono (by decide)) (pa_cons (pv 1) (pa_cons pe_int pa_nil))) pa_nil)) (pa_cons (pe_has G_cut (hr.mono (by decide)) (pa_cons (pe_has G_lrow (hr.mono (by decide)) (pa_cons (pv 1) (pa_cons pe_int pa_nil))) pa_nil)) pa_nil))) (pg_tup rfl (pgs_cons (pg_name (i := 3) sc_law.nd rfl (Or.inr rfl)) (pgs_cons (pg_name (i := 4) sc_law.nd rfl (Or.inl rfl)) pgs_nil))))
      (Evl.pss_cut (ps_if (pt_cmpR op_eq (pe_has G_draw (hr.mono (by decide)) (pa_cons (pv 1) (pa_cons pe_int pa_nil))) pe_int (nomark _))
        (pss_one (ps_set (i := 4) sc_law.nd rfl (Or.inl rfl) (pe_callTy (show CallR _ _ (rTupQ K) from c_tuple) (by rfl) T.tuple_ (by decide +kernel) (pa_cons (pe_lc (own := [("_law_amount", 7)]) (g := gName 7) (tt := tYes) (by rfl) sc_law.nd (pi_tup (pv 3)) (blkOk_by (own := [("_law_amount", 7)]) (N := N_law) (sc := defScope s_law) (by decide +kernel)) (fun _ _ _ _ _ => (pg_name (i := 7) sc_law.nd rfl (by first | exact Or.inl rfl | exact Or.inr rfl))) (fun _ _ _ _ _ => pts_nil) (fun _ _ _ _ _ => (pe_un un_neg (pv 7)))) pa_nil))))
        pss_nil)
      (pss_cons (ps_par (i := 5) (j := 6) (by rfl) sc_law.nd rfl rfl (by decide) rfl rfl (pa_cons (pe_mkH G_Size (hr.mono (by decide)) (by rfl) g_Size (pa_cons (pv 3) pa_nil)) (pa_cons (pe_mkH G_Size (hr.mono (by decide)) (by rfl) g_Size (pa_cons (pv 4) pa_nil)) pa_nil)) (by rfl))
      (pss_cons (ps_asg (pe_tup (pa_cons (pe_has G_integer (hr.mono (by decide)) (pa_cons (pv 1) pa_nil)) (pa_cons (pe_has G_integer (hr.mono (by decide)) (pa_cons (pv 1) pa_nil)) pa_nil))) (pg_tup rfl (pgs_cons (pg_name (i := 7) sc_law.nd rfl (Or.inl rfl)) (pgs_cons (pg_name (i := 8) sc_law.nd rfl (Or.inr rfl)) pgs_nil))))
      (pss_cons (ps_par (i := 9) (j := 10) (by rfl) sc_law.nd rfl rfl (by decide) rfl rfl (pa_cons (pe_has G_cut (hr.mono (by decide)) (pa_cons (pe_lst (pa_cons (pv 7) pa_nil)) pa_nil)) (pa_cons (pe_callTy (show CallR _ _ (rTupQ K) from c_tuple) (by rfl) T.tuple_ (by decide +kernel) (pa_cons (pe_lc (own := [("_law_part", 14)]) (g := gName 14) (tt := tYes) (by rfl) sc_law.nd (pi_tup (pv 3)) (blkOk_by (own := [("_law_part", 14)]) (N := N_law) (sc := defScope s_law) (by decide +kernel)) (fun _ _ _ _ _ => (pg_name (i := 14) sc_law.nd rfl (by first | exact Or.inl rfl | exact Or.inr rfl))) (fun _ _ _ _ _ => pts_nil) (fun _ _ _ _ _ => (pe_un un_neg (pv 14)))) pa_nil)) pa_nil)) (by rfl))
      (pss_cons (ps_set (i := 11) sc_law.nd rfl (Or.inl rfl) (pe_lst (pa_cons (pe_tup (pa_cons (pe_op (EO.op_oo G_Size_add sf_Size (hr.mono (by decide))) (pv 5) (pv 6)) (pa_cons (pe_has G_lplus (hr.mono (by decide)) (pa_cons (pv 3) (pa_cons (pv 4) pa_nil))) pa_nil))) (pa_cons (pe_tup (pa_cons (pe_op (EO.op_oo G_Size_mul sf_Size (hr.mono (by decide))) (pv 5) (pv 6)) (pa_cons (pe_has G_ltimes (hr.mono (by decide)) (pa_cons (pv 3) (pa_cons (pv 4) pa_nil))) pa_nil))) (pa_cons (pe_tup (pa_cons (pe_un (EO.un_oo (m := "__neg__") (by decide) rfl G_Size_neg (hr.mono (by decide))) (pv 5)) (pa_cons (pv 10) pa_nil))) pa_nil)))))
      (pss_cons (ps_set (i := 11) sc_law.nd rfl (Or.inl rfl) (pe_op op_cat (pv 11) (pe_lst (pa_cons (pe_tup (pa_cons (pe_op (EO.op_oo G_Size_sub sf_Size (hr.mono (by decide))) (pv 5) (pv 6)) (pa_cons (pe_has G_lplus (hr.mono (by decide)) (pa_cons (pv 3) (pa_cons (pe_lc (own := [("_law_part", 14)]) (g := gName 14) (tt := tYes) (by rfl) sc_law.nd (pi_tup (pv 4)) (blkOk_by (own := [("_law_part", 14)]) (N := N_law) (sc := defScope s_law) (by decide +kernel)) (fun _ _ _ _ _ => (pg_name (i := 14) sc_law.nd rfl (by first | exact Or.inl rfl | exact Or.inr rfl))) (fun _ _ _ _ _ => pts_nil) (fun _ _ _ _ _ => (pe_un un_neg (pv 14)))) pa_nil))) pa_nil))) (pa_cons (pe_tup (pa_cons (pe_op (EO.op_oi G_Size_add mx_Size_add (hr.mono (by decide))) (pv 5) (pv 7)) (pa_cons (pe_has G_lplus (hr.mono (by decide)) (pa_cons (pv 3) (pa_cons (pv 9) pa_nil))) pa_nil))) pa_nil)))))
      (pss_cons (ps_set (i := 11) sc_law.nd rfl (Or.inl rfl) (pe_op op_cat (pv 11) (pe_lst (pa_cons (pe_tup (pa_cons (pe_op (EO.op_io G_Size_radd EO.dec_add at_Size_add sf_Size is_Size (hr.mono (by decide))) (pv 7) (pv 5)) (pa_cons (pe_has G_lplus (hr.mono (by decide)) (pa_cons (pv 3) (pa_cons (pv 9) pa_nil))) pa_nil))) (pa_cons (pe_tup (pa_cons (pe_op (EO.op_oi G_Size_sub mx_Size_sub (hr.mono (by decide))) (pv 5) (pv 7)) (pa_cons (pe_has G_lplus (hr.mono (by decide)) (pa_cons (pv 3) (pa_cons (pe_lst (pa_cons (pe_un un_neg (pv 7)) pa_nil)) pa_nil))) pa_nil))) pa_nil)))))
      (pss_cons (ps_set (i := 11) sc_law.nd rfl (Or.inl rfl) (pe_op op_cat (pv 11) (pe_lst (pa_cons (pe_tup (pa_cons (pe_op (EO.op_io G_Size_rsub EO.dec_sub at_Size_sub sf_Size is_Size (hr.mono (by decide))) (pv 7) (pv 5)) (pa_cons (pe_has G_lplus (hr.mono (by decide)) (pa_cons (pv 10) (pa_cons (pv 9) pa_nil))) pa_nil))) (pa_cons (pe_tup (pa_cons (pe_op (EO.op_oi G_Size_mul mx_Size_mul (hr.mono (by decide))) (pv 5) (pv 7)) (pa_cons (pe_has G_ltimes (hr.mono (by decide)) (pa_cons (pv 3) (pa_cons (pv 9) pa_nil))) pa_nil))) pa_nil)))))
      (pss_cons (ps_set (i := 11) sc_law.nd rfl (Or.inl rfl) (pe_op op_cat (pv 11) (pe_lst (pa_cons (pe_tup (pa_cons (pe_op (EO.op_io G_Size_rmul EO.dec_mul at_Size_mul sf_Size is_Size (hr.mono (by decide))) (pv 7) (pv 5)) (pa_cons (pe_has G_ltimes (hr.mono (by decide)) (pa_cons (pv 3) (pa_cons (pv 9) pa_nil))) pa_nil))) pa_nil))))
      (pss_cons (ps_expr (pe_bm PySem.F.plainAttrs_list PySem.F.slot_list_append PySem.F.type_list_append mt_append (pv 11) (pa_cons (pe_tup (pa_cons (pe_op (EO.op_oi G_Size_rshift mx_Size_rshift (hr.mono (by decide))) (pv 5) (pv 8)) (pa_cons (pe_has G_lrowof (hr.mono (by decide)) (pa_cons (pe_lc (own := [("_law_n", 17)]) (g := gName 17) (tt := tYes) (by rfl) sc_law.nd (pi_range1 (by rfl) T.range_ (pa_cons (pe_callB (show CallR _ _ (rLenQ K) from c_len) (by rfl) T.len_ (by decide +kernel) (pa_cons (pv 3) pa_nil)) pa_nil)) (blkOk_by (own := [("_law_n", 17)]) (N := N_law) (sc := defScope s_law) (by decide +kernel)) (fun _ _ _ _ _ => (pg_name (i := 17) sc_law.nd rfl (by first | exact Or.inl rfl | exact Or.inr rfl))) (fun _ _ _ _ _ => pts_nil) (fun _ _ _ _ _ => (pe_has G_lat (hr.mono (by decide)) (pa_cons (pv 3) (pa_cons (pe_op op_sub (pv 17) (pv 8)) pa_nil))))) pa_nil)) pa_nil))) pa_nil)))
      (pss_cons (ps_expr (pe_bm PySem.F.plainAttrs_list PySem.F.slot_list_append PySem.F.type_list_append mt_append (pv 11) (pa_cons (pe_tup (pa_cons (pe_op (EO.op_oi G_Size_lshift mx_Size_lshift (hr.mono (by decide))) (pv 5) (pv 8)) (pa_cons (pe_has G_lrowof (hr.mono (by decide)) (pa_cons (pe_lc (own := [("_law_n", 17)]) (g := gName 17) (tt := tYes) (by rfl) sc_law.nd (pi_range1 (by rfl) T.range_ (pa_cons (pe_callB (show CallR _ _ (rLenQ K) from c_len) (by rfl) T.len_ (by decide +kernel) (pa_cons (pv 3) pa_nil)) pa_nil)) (blkOk_by (own := [("_law_n", 17)]) (N := N_law) (sc := defScope s_law) (by decide +kernel)) (fun _ _ _ _ _ => (pg_name (i := 17) sc_law.nd rfl (by first | exact Or.inl rfl | exact Or.inr rfl))) (fun _ _ _ _ _ => pts_nil) (fun _ _ _ _ _ => (pe_has G_lat (hr.mono (by decide)) (pa_cons (pv 3) (pa_cons (pe_op op_add (pv 17) (pv 8)) pa_nil))))) pa_nil)) pa_nil))) pa_nil)))
      (pss_cons (ps_par (i := 12) (j := 13) (by rfl) sc_law.nd rfl rfl (by decide) rfl rfl (pa_cons (pe_mkH G_Size (hr.mono (by decide)) (by rfl) g_Size (pa_cons (pe_slice (show SlR _ (ZK.rSlS K) from ZK.sl_any) (pv 3) po_none (po_some pe_int)) pa_nil)) (pa_cons (pe_has G_ltimes (hr.mono (by decide)) (pa_cons (pe_slice (show SlR _ (ZK.rSlS K) from ZK.sl_any) (pv 3) po_none (po_some pe_int)) (pa_cons (pe_slice (show SlR _ (ZK.rSlS K) from ZK.sl_any) (pv 3) po_none (po_some pe_int)) pa_nil))) pa_nil)) (by rfl))
      (pss_cons (ps_set (i := 11) sc_law.nd rfl (Or.inl rfl) (pe_op op_cat (pv 11) (pe_lst (pa_cons (pe_tup (pa_cons (pe_op (EO.op_oi G_Size_pow mx_Size_pow (hr.mono (by decide))) (pv 12) pe_int) (pa_cons (pe_tup (pa_cons pe_int pa_nil)) pa_nil))) (pa_cons (pe_tup (pa_cons (pe_op (EO.op_oi G_Size_pow mx_Size_pow (hr.mono (by decide))) (pv 12) pe_int) (pa_cons (pe_has G_cut (hr.mono (by decide)) (pa_cons (pe_slice (show SlR _ (ZK.rSlS K) from ZK.sl_any) (pv 3) po_none (po_some pe_int)) pa_nil)) pa_nil))) (pa_cons (pe_tup (pa_cons (pe_op (EO.op_oi G_Size_pow mx_Size_pow (hr.mono (by decide))) (pv 12) pe_int) (pa_cons (pv 13) pa_nil))) pa_nil))))))
      (pss_cons (ps_expr (pe_bm PySem.F.plainAttrs_list PySem.F.slot_list_append PySem.F.type_list_append mt_append (pv 11) (pa_cons (pe_tup (pa_cons (pe_op (EO.op_oi G_Size_pow mx_Size_pow (hr.mono (by decide))) (pv 12) pe_int) (pa_cons (pe_has G_ltimes (hr.mono (by decide)) (pa_cons (pv 13) (pa_cons (pe_slice (show SlR _ (ZK.rSlS K) from ZK.sl_any) (pv 3) po_none (po_some pe_int)) pa_nil))) pa_nil))) pa_nil)))
      htail))))))))))))))))
    (pss_one (ps_ret pe_bl)))), ?_⟩
    refine ⟨_, rfl, a, ns, rfl, hS, hn, fun p c H1 s1 np nc P1 => ?_⟩
    refine ⟨_, rfl, a, _, rfl, .inl (s1.seq hS), 5, _, rfl, 3, _, rfl, rfl, _, rfl, ?_, ?_, ?_⟩
    · split <;> omega
    · rw [List.length_map]
      split <;> omega
    have hm : (3 + if ((ns.map V.int).length : Int) < 5 then ((ns.map V.int).length : Int) else 5).toNat ≤ 8 := by split <;> omega
    generalize (3 + if ((ns.map V.int).length : Int) < 5 then ((ns.map V.int).length : Int) else 5).toNat = m at hm
    have hT1 := hT.ext s1
    clear hS hT s1 np nc
    refine for_range (lo := 0) (n := m) (fun i σ H' => ∃ v2 v3 v4 v5 v6 v7 v8 v9 v10 v11 v12 v13 : Option V, Pen H' p c ns (3000 * i) ∧ LamX.Tabs T0 H' ∧ σ = [some (.ref a), some (.ref p), v2, v3, v4, v5, v6, v7, v8, v9, v10, v11, v12, v13, none, none, none, none]) ⟨none, none, none, none, none, none, none, none, none, none, none, none, P1, hT1, rfl⟩ ?_ ?_
    · rintro i σ H6 hi ⟨v2, v3, v4, v5, v6, v7, v8, v9, v10, v11, v12, v13, P6, T6, rfl⟩
      clear P1 hT1 H1
      refine ⟨_, rfl, p, c, ns, _, 6, rfl, P6, by decide, by decide, by omega, fun l r H7 hrl hrx P7 b7 nl hl7 => ?_⟩
      refine ⟨l, r, rfl, .inl (SqL.of hl7), by omega, fun t H8 s8 ht8 => ?_⟩
      have T8 := (P6.tabs b7 T6).ext s8
      have L8 : Ctx K C_Size p c ns _ T0 [(t, M.cut r)] [] [] [] H8 := ⟨P7.same s8, T8, fun q hq => by rw [List.mem_singleton.mp hq]; exact ht8, fun q hq => by simp at hq, fun q hq => by simp at hq, fun q hq => by simp at hq, fun q hq => by simp at hq⟩
      clear hl7 nl P7 b7 ht8 T8 s8 P6 T6
      refine ⟨_, rfl, p, c, ns, _, 6, rfl, L8.pen, by decide, by decide, by omega, fun l' r' H9 hrl' hrx' P9 b9 nl' hl9 => ?_⟩
      refine ⟨l', r', rfl, .inl (SqL.of hl9), by omega, fun u H10 s10 hu => ⟨(by show 2 ≤ sizeLine; decide), fun tt htt => ⟨tt, _, rfl, SqT.of upd_same, rfl, _, _, rfl, _, _, rfl, rfl, ?_⟩⟩⟩
      have L10 := ((((L8.draw P9 b9 rfl rfl).same s10).addT hu).same (same_new (Same.refl H10) (.tup [.ref t, .ref u]) htt))
      clear hl9 nl' P9 b9 L8 s10 hu
      generalize upd H10 tt (.tup [.ref t, .ref u]) = H11 at L10 ⊢
      clear htt
      refine ⟨fun σ' H' => ∃ (u' : Addr) (oo : List Int) (w7 : Option V), σ' = [some (.ref a), some (.ref p), some (.int (0 + (i : Int))), some (.ref t), some (.ref u'), v5, v6, w7, v8, v9, v10, v11, v12, v13, none, none, none, none] ∧ Ctx K C_Size p c ns (3000 * i + 1001) T0 [(u', oo), (t, M.cut r)] [] [] [] H' ∧ M.cut oo = oo ∧ oo.length ≤ 6 ∧ SzA 200 oo, ?_, ?_⟩
      · refine ⟨_, rfl, p, c, ns, _, 5, rfl, L10.pen, by omega, by decide, lit _ (by decide) (by decide), fun d H12 d0 d5 P12 b12 => ?_⟩
        have L12 := L10.draw P12 b12 rfl rfl
        by_cases z : d = 0
        · refine ⟨rfl, true, congrArg V.bl (decide_eq_true (congrArg V.int z)), iteT ?_⟩
          have ht := L12.t (t := t) (r := M.cut r) (by simp)
          refine ⟨_, rfl, t, rfl, ⟨_, ht⟩, fun D hD => ?_⟩
          refine ZK.lc_growT (K := K) (a := t) (xs := (M.cut r).map V.int) (small1000 (by rw [List.length_map]; have := cut_len r; omega)) (fun _ H' => Same H12 H') (fun i y => y = .int (-((M.cut r).getD i 0))) (same_new (Same.refl _) _ hD) (fun i H' s' => sqT_same s' ht) ?_ ?_
          · intro j x H13 acc hx1 s13 hacc hal hR Qn hq
            obtain ⟨hj, rfl⟩ := int_at hx1
            exact ⟨rfl, _, rfl, _, rfl, hq _ _ rfl hacc (same_but_new s13 hD)⟩
          intro H13 acc s13 hacc hal hR
          have e13 := ZK.eq_map hal hR
          have hm13 : H13 D = some (.lst ((M.times (M.cut r) (-1)).map V.int)) := by rw [hacc, e13, List.length_map, range_ints (M.cut r) fun a => -a, neg_times]
          refine ⟨D, _, rfl, .inl ⟨SqL.of hm13, fun t2 nt2 => ?_⟩⟩
          have L14 := ((L12.same s13).same (same_new (Same.refl H13) (.tup ((M.times (M.cut r) (-1)).map V.int)) nt2)).addT (t := t2) (SqT.of upd_same)
          refine ⟨t2, M.times (M.cut r) (-1), _, rfl, L14.less (fun q hq => by simp only [List.mem_cons, List.not_mem_nil, or_false] at hq ⊢; rcases hq with h | h <;> simp [h]) (fun q hq => hq), cut_neg (M.cut_cut r), ?_, ?_⟩
          · rw [M.times_len]; have := cut_len r; omega
          · intro x hx1
            rw [← neg_times] at hx1
            obtain ⟨y, hy, rfl⟩ := List.mem_map.mp hx1
            exact (hrx y (List.mem_of_mem_take hy)).neg
        · refine ⟨rfl, false, congrArg V.bl (decide_eq_false fun e => z (V.int.inj e)), iteF ?_⟩
          exact ⟨u, M.cut r', v7, rfl, L12, M.cut_cut r', by have := cut_len r'; omega, SzA.cut hrx'⟩
      rintro _ H12 ⟨u', oo, w7, rfl, L12, hoo, loo, xoo⟩
      have hrr := M.cut_cut r
      have lrr : (M.cut r).length ≤ 6 := by have := cut_len r; omega
      have xrr : SzA 200 (M.cut r) := SzA.cut hrx
      generalize M.cut r = rr at hrr lrr xrr L12 L10
      clear L10 hrx hrl hrx' hrl' r'
      -- the two sizes
      refine ⟨_, rfl, fun z1 dz1 nz1 nd1 ne1 => madeQ (.inr (L12.t (t := t) (r := rr) (by simp))) (by omega) nz1 nd1 ne1 fun H13 s13 hz1 => ⟨rfl, ?_⟩⟩
      rw [hrr] at hz1
      have L13 := (L12.same s13).addZ hz1
      clear L12 s13 hz1 nz1 nd1 ne1
      refine ⟨_, rfl, fun z2 dz2 nz2 nd2 ne2 => madeQ (.inr (L13.t (t := u') (r := oo) (by simp))) (by omega) nz2 nd2 ne2 fun H14 s14 hz2 => ⟨rfl, _, _, rfl, ?_⟩⟩
      rw [hoo] at hz2
      have L14 := (L13.same s14).addZ hz2
      clear L13 s14 hz2 nz2 nd2 ne2
      -- the numbers
      refine ⟨_, rfl, p, c, ns, _, rfl, L14.pen, by omega, fun am H15 ham P15 b15 => ?_⟩
      have L15 := L14.draw P15 b15 rfl rfl
      clear L14 P15 b15
      refine ⟨_, rfl, p, c, ns, _, rfl, L15.pen, by omega, fun by_ H16 hby P16 b16 => ?_⟩
      have L16 := L15.draw P16 b16 rfl rfl
      clear L15 P16 b16
      refine ⟨(by show 2 ≤ sizeLine; decide), fun tt htt => ⟨tt, _, rfl, SqT.of upd_same, rfl, _, _, rfl, _, _, rfl, rfl, ?_⟩⟩
      have L17 := L16.same (same_new (Same.refl H16) (.tup [.int am, .int by_]) htt)
      clear L16
      generalize upd H16 tt (.tup [.int am, .int by_]) = H17 at L17 ⊢
      clear htt
      -- flat and away
      refine ⟨_, rfl, (by show 1 ≤ sizeLine; decide), fun lf hlf => ?_⟩
      have L18 := L17.same (same_new (Same.refl H17) (.lst [.int am]) hlf)
      refine ⟨lf, [am], rfl, .inl (SqL.of upd_same), by show 1 ≤ 1000; decide, fun fl H19 s19 hfl => ?_⟩
      have L19 := (L18.same s19).addT hfl
      clear L17 L18 s19 hfl hlf
      have ht19 := L19.t (t := t) (r := rr) (by simp)
      refine ⟨_, rfl, t, rfl, ⟨_, ht19⟩, fun D hD => ?_⟩
      refine ZK.lc_growT (K := K) (a := t) (xs := rr.map V.int) (small1000 (by rw [List.length_map]; omega)) (fun _ H' => Same H19 H') (fun i y => y = .int (-(rr.getD i 0))) (same_new (Same.refl _) _ hD) (fun i H' s' => sqT_same s' ht19) ?_ ?_
      · intro j x H20 acc hx1 s20 hacc hal hR Qn hq
        obtain ⟨hj, rfl⟩ := int_at hx1
        exact ⟨rfl, _, rfl, _, rfl, hq _ _ rfl hacc (same_but_new s20 hD)⟩
      intro H20 acc s20 hacc hal hR
      have e20 := ZK.eq_map hal hR
      have hm20 : H20 D = some (.lst ((M.times rr (-1)).map V.int)) := by rw [hacc, e20, List.length_map, range_ints rr fun a => -a, neg_times]
      refine ⟨D, _, rfl, .inl ⟨SqL.of hm20, fun aw naw => ?_⟩⟩
      have L21 := ((L19.same s20).same (same_new (Same.refl H20) (.tup ((M.times rr (-1)).map V.int)) naw)).addT (t := aw) (SqT.of upd_same)
      clear L19 ht19 s20 hm20 e20 hR hacc hal
      generalize upd H20 aw (.tup ((M.times rr (-1)).map V.int)) = H21 at L21 ⊢
      clear naw hD acc
      refine ⟨_, _, rfl, ?_⟩
      have lfl : (M.cut [am]).length ≤ 1 := cut_len _
      refine ⟨_, rfl, _, rfl, oo2 (L21.z (t := z1) (r := rr) (by simp)) (L21.z (t := z2) (r := oo) (by simp)) ⟨by omega, by omega⟩ fun z22 H22 s22 hz22 => ?_⟩
      have L22 := L21.same s22
      refine ⟨_, rfl, _, rfl, t, u', rr, oo, rfl, .inr (L22.t (by simp)), .inr (L22.t (by simp)), by omega, by omega, fun w23 R23 H23 s23 hw23 lw23 vw23 => ⟨(by show 2 ≤ sizeLine; decide), fun t24 nt24 => ?_⟩⟩
      have L24 := (L22.same s23).pair (R := M.plus rr oo) (S := R23) nt24 (hz22.same s23) hw23 (fun n => by rw [M.plus_val, vw23])
      generalize upd H23 t24 (.tup [.ref z22, .ref w23]) = H24 at L24 ⊢
      clear L21 L22 s22 hz22 s23 hw23 nt24
      refine ⟨_, rfl, _, rfl, oo2 (L24.z (t := z1) (r := rr) (by simp)) (L24.z (t := z2) (r := oo) (by simp)) ⟨by omega, by omega, xrr.mono (by omega), xoo.mono (by omega)⟩ fun z25 H25 s25 hz25 => ?_⟩
      have L25 := L24.same s25
      refine ⟨_, rfl, _, rfl, t, u', rr, oo, 200, rfl, .inr (L25.t (by simp)), .inr (L25.t (by simp)), by omega, by omega, xrr, xoo, by omega, fun w26 R26 H26 s26 hw26 lw26 xw26 vw26 => ⟨(by show 2 ≤ sizeLine; decide), fun t27 nt27 => ?_⟩⟩
      have L27 := (L25.same s26).pair (R := M.prod rr oo) (S := R26) nt27 (hz25.same s26) hw26 (fun n => by rw [M.prod_val, vw26])
      generalize upd H26 t27 (.tup [.ref z25, .ref w26]) = H27 at L27 ⊢
      clear L24 L25 s25 hz25 s26 hw26 nt27
      refine ⟨_, rfl, u1 (L27.z (t := z1) (r := rr) (by simp)) (by omega) (xrr.mono (by omega)) fun z28 H28 s28 hz28 => ?_⟩
      have L28 := L27.same s28
      refine ⟨_, rfl, (by show 2 ≤ sizeLine; decide), fun t29 nt29 => ?_⟩
      have L29 := L28.pair (R := M.times rr (-1)) (S := M.times rr (-1)) (u := aw) nt29 hz28 (by rw [cut_neg hrr]; exact L28.t (by simp)) (fun _ => rfl)
      generalize upd H28 t29 (.tup [.ref z28, .ref aw]) = H29 at L29 ⊢
      clear L27 L28 s28 hz28 nt29
      refine ⟨(by show 3 ≤ sizeLine; decide), fun l30 nl30 => ?_⟩
      have ncl30 : l30 ≠ c := L29.pen.nec nl30
      have s30 := same_new (Same.refl H29) (.lst [.ref t24, .ref t27, .ref t29]) nl30
      have e30 : (upd H29 l30 (.lst [.ref t24, .ref t27, .ref t29])) l30 = some (.lst [.ref t24, .ref t27, .ref t29]) := upd_same
      have L30 := L29.same s30
      generalize upd H29 l30 (.lst [.ref t24, .ref t27, .ref t29]) = H30 at L30 s30 e30 ⊢
      replace L30 := L30.setL e30 ncl30
      clear L29 s30 e30 ncl30 nl30
      refine ⟨_, rfl, ?_⟩
      refine ⟨_, rfl, _, rfl, oo2 (L30.z (t := z1) (r := rr) (by simp)) (L30.z (t := z2) (r := oo) (by simp)) ⟨by omega, by omega, xoo.mono (by omega)⟩ fun z31 H31 s31 hz31 => ?_⟩
      have L31 := L30.same s31
      have ho31 := L31.t (t := u') (r := oo) (by simp)
      refine ⟨_, rfl, _, rfl, u', rfl, ⟨_, ho31⟩, fun D hD => ?_⟩
      refine ZK.lc_growT (K := K) (a := u') (xs := oo.map V.int) (small1000 (by rw [List.length_map]; omega)) (fun _ H' => Same H31 H') (fun i y => y = .int (-(oo.getD i 0))) (same_new (Same.refl _) _ hD) (fun i H' s' => sqT_same s' ho31) ?_ ?_
      · intro j x Hx acc hx1 sx hacc hal hR Qn hq
        obtain ⟨hj, rfl⟩ := int_at hx1
        exact ⟨rfl, _, rfl, _, rfl, hq _ _ rfl hacc (same_but_new sx hD)⟩
      intro H32 acc s32 hacc hal hR
      have eg := ZK.eq_map hal hR
      have hm32 : SqL K H32 D ((M.times oo (-1)).map V.int) := SqL.of (by rw [hacc, eg, List.length_map, range_ints oo fun a => -a, neg_times])
      have lo32 : (M.times oo (-1)).length ≤ 6 := by rw [M.times_len]; exact loo
      refine ⟨t, D, rr, M.times oo (-1), rfl, .inr ((L31.same s32).t (by simp)), .inl hm32, by omega, by omega, fun w33 R33 H33 s33 hw33 lw33 vw33 => ⟨(by show 2 ≤ sizeLine; decide), fun t34 nt34 => ?_⟩⟩
      have L34 := ((L31.same s32).same s33).pair (R := M.less rr oo) (S := R33) nt34 ((hz31.same s32).same s33) hw33 (fun n => by rw [M.less_val, vw33, M.times_val]; omega)
      generalize upd H33 t34 (.tup [.ref z31, .ref w33]) = H34 at L34 ⊢
      clear L30 L31 s31 hz31 s33 hw33 nt34 hm32 eg hR hacc hal hD s32 ho31 acc
      refine ⟨_, rfl, _, rfl, oi2 (L34.z (t := z1) (r := rr) (by simp)) ⟨by omega, by show 1 ≤ 900; decide⟩ fun z35 H35 s35 hz35 => ?_⟩
      have L35 := L34.same s35
      refine ⟨_, rfl, _, rfl, t, fl, rr, (M.cut [am]), rfl, .inr (L35.t (by simp)), .inr (L35.t (by simp)), by omega, by omega, fun w36 R36 H36 s36 hw36 lw36 vw36 => ⟨(by show 2 ≤ sizeLine; decide), fun t37 nt37 => ?_⟩⟩
      have L37 := (L35.same s36).pair (R := M.plus rr [am]) (S := R36) nt37 (hz35.same s36) hw36 (fun n => by rw [M.plus_val, vw36, M.cut_val])
      generalize upd H36 t37 (.tup [.ref z35, .ref w36]) = H37 at L37 ⊢
      clear L34 L35 s35 hz35 s36 hw36 nt37
      refine ⟨(by show 2 ≤ sizeLine; decide), fun l38 nl38 => ?_⟩
      have ncl38 : l38 ≠ c := L37.pen.nec nl38
      have s38 := same_new (Same.refl H37) (.lst [.ref t34, .ref t37]) nl38
      have e38 : (upd H37 l38 (.lst [.ref t34, .ref t37])) l38 = some (.lst [.ref t34, .ref t37]) := upd_same
      have L38 := L37.same s38
      generalize upd H37 l38 (.lst [.ref t34, .ref t37]) = H38 at L38 s38 e38 ⊢
      refine ⟨l30, l38, _, _, rfl, rfl, L38.l (r := [.ref t24, .ref t27, .ref t29]) (by simp), e38, (by show 5 ≤ sizeLine; decide), fun l39 nl39 => ?_⟩
      have ncl39 : l39 ≠ c := L38.pen.nec nl39
      have e39 : (upd H38 l39 (.lst ([.ref t24, .ref t27, .ref t29] ++ [.ref t34, .ref t37]))) l39 = some (.lst [.ref t24, .ref t27, .ref t29, .ref t34, .ref t37]) := upd_same
      have L39 := (L38.same (same_new (Same.refl H38) (.lst ([.ref t24, .ref t27, .ref t29] ++ [.ref t34, .ref t37])) nl39)).setL e39 ncl39
      generalize upd H38 l39 (.lst ([.ref t24, .ref t27, .ref t29] ++ [.ref t34, .ref t37])) = H39 at L39 e39 ⊢
      clear L37 L38 s38 e38 ncl38 nl38 e39 ncl39 nl39
      refine ⟨_, rfl, ?_⟩
      refine ⟨_, rfl, _, rfl, io2 (L39.z (t := z1) (r := rr) (by simp)) ⟨by omega, by show 1 ≤ 900; decide⟩ fun z40 H40 s40 hz40 => ?_⟩
      have L40 := L39.same s40
      refine ⟨_, rfl, _, rfl, t, fl, rr, (M.cut [am]), rfl, .inr (L40.t (by simp)), .inr (L40.t (by simp)), by omega, by omega, fun w41 R41 H41 s41 hw41 lw41 vw41 => ⟨(by show 2 ≤ sizeLine; decide), fun t42 nt42 => ?_⟩⟩
      have L42 := (L40.same s41).pair (R := M.plus rr [am]) (S := R41) nt42 (hz40.same s41) hw41 (fun n => by rw [M.plus_val, vw41, M.cut_val])
      generalize upd H41 t42 (.tup [.ref z40, .ref w41]) = H42 at L42 ⊢
      clear L39 L40 s40 hz40 s41 hw41 nt42
      refine ⟨_, rfl, _, rfl, oi2 (L42.z (t := z1) (r := rr) (by simp)) ⟨by omega, (by show 1 ≤ 900; decide), sz_one (ham.mono (by omega))⟩ fun z43 H43 s43 hz43 => ?_⟩
      have L43 := L42.same s43
      refine ⟨_, rfl, _, rfl, _, rfl, (by show 1 ≤ sizeLine; decide), fun l46 nl46 => ?_⟩
      have s46 := same_new (Same.refl H43) (.lst [.int (-am)]) nl46
      refine ⟨t, l46, rr, [-am], rfl, .inr ((L43.same s46).t (by simp)), .inl (SqL.of upd_same), by omega, (by show 1 ≤ 300; decide), fun w44 R44 H44 s44 hw44 lw44 vw44 => ⟨(by show 2 ≤ sizeLine; decide), fun t45 nt45 => ?_⟩⟩
      have L45 := ((L43.same s46).same s44).pair (R := M.less rr [am]) (S := R44) nt45 ((hz43.same s46).same s44) hw44 (fun n => by rw [M.less_val, vw44, val_one, val_one]; omega)
      generalize upd H44 t45 (.tup [.ref z43, .ref w44]) = H45 at L45 ⊢
      clear L42 L43 s43 hz43 s44 hw44 nt45 s46 nl46
      refine ⟨(by show 2 ≤ sizeLine; decide), fun l47 nl47 => ?_⟩
      have ncl47 : l47 ≠ c := L45.pen.nec nl47
      have s47 := same_new (Same.refl H45) (.lst [.ref t42, .ref t45]) nl47
      have e47 : (upd H45 l47 (.lst [.ref t42, .ref t45])) l47 = some (.lst [.ref t42, .ref t45]) := upd_same
      have L47 := L45.same s47
      generalize upd H45 l47 (.lst [.ref t42, .ref t45]) = H47 at L47 s47 e47 ⊢
      refine ⟨l39, l47, _, _, rfl, rfl, L47.l (r := [.ref t24, .ref t27, .ref t29, .ref t34, .ref t37]) (by simp), e47, (by show 7 ≤ sizeLine; decide), fun l48 nl48 => ?_⟩
      have ncl48 : l48 ≠ c := L47.pen.nec nl48
      have e48 : (upd H47 l48 (.lst ([.ref t24, .ref t27, .ref t29, .ref t34, .ref t37] ++ [.ref t42, .ref t45]))) l48 = some (.lst [.ref t24, .ref t27, .ref t29, .ref t34, .ref t37, .ref t42, .ref t45]) := upd_same
      have L48 := (L47.same (same_new (Same.refl H47) (.lst ([.ref t24, .ref t27, .ref t29, .ref t34, .ref t37] ++ [.ref t42, .ref t45])) nl48)).setL e48 ncl48
      generalize upd H47 l48 (.lst ([.ref t24, .ref t27, .ref t29, .ref t34, .ref t37] ++ [.ref t42, .ref t45])) = H48 at L48 e48 ⊢
      clear L45 L47 s47 e47 ncl47 nl47 e48 ncl48 nl48
      refine ⟨_, rfl, ?_⟩
      refine ⟨_, rfl, _, rfl, io2 (L48.z (t := z1) (r := rr) (by simp)) ⟨by omega, (by show 1 ≤ 900; decide), xrr.mono (by omega)⟩ fun z49 H49 s49 hz49 => ?_⟩
      have L49 := L48.same s49
      refine ⟨_, rfl, _, rfl, aw, fl, (M.times rr (-1)), (M.cut [am]), rfl, .inr (L49.t (by simp)), .inr (L49.t (by simp)), by rw [M.times_len]; omega, by omega, fun w50 R50 H50 s50 hw50 lw50 vw50 => ⟨(by show 2 ≤ sizeLine; decide), fun t51 nt51 => ?_⟩⟩
      have L51 := (L49.same s50).pair (R := rsub rr [am]) (S := R50) nt51 (hz49.same s50) hw50 (fun n => by rw [rsub, M.plus_val, vw50, M.cut_val, M.cut_val])
      generalize upd H50 t51 (.tup [.ref z49, .ref w50]) = H51 at L51 ⊢
      clear L48 L49 s49 hz49 s50 hw50 nt51
      refine ⟨_, rfl, _, rfl, oi2 (L51.z (t := z1) (r := rr) (by simp)) ⟨by omega, (by show 1 ≤ 16; decide), xrr.mono (by omega), sz_one (ham.mono (by omega))⟩ fun z52 H52 s52 hz52 => ?_⟩
      have L52 := L51.same s52
      refine ⟨_, rfl, _, rfl, t, fl, rr, M.cut [am], 200, rfl, .inr (L52.t (by simp)), .inr (L52.t (by simp)), by omega, by omega, xrr, (sz_one ham).cut, by omega, fun w53 R53 H53 s53 hw53 lw53 xw53 vw53 => ⟨(by show 2 ≤ sizeLine; decide), fun t54 nt54 => ?_⟩⟩
      have L54 := (L52.same s53).pair (R := M.prod rr [am]) (S := R53) nt54 (hz52.same s53) hw53 (fun n => by rw [M.prod_val, vw53, M.cut_val])
      generalize upd H53 t54 (.tup [.ref z52, .ref w53]) = H54 at L54 ⊢
      clear L51 L52 s52 hz52 s53 hw53 nt54
      refine ⟨(by show 2 ≤ sizeLine; decide), fun l55 nl55 => ?_⟩
      have ncl55 : l55 ≠ c := L54.pen.nec nl55
      have s55 := same_new (Same.refl H54) (.lst [.ref t51, .ref t54]) nl55
      have e55 : (upd H54 l55 (.lst [.ref t51, .ref t54])) l55 = some (.lst [.ref t51, .ref t54]) := upd_same
      have L55 := L54.same s55
      generalize upd H54 l55 (.lst [.ref t51, .ref t54]) = H55 at L55 s55 e55 ⊢
      refine ⟨l48, l55, _, _, rfl, rfl, L55.l (r := [.ref t24, .ref t27, .ref t29, .ref t34, .ref t37, .ref t42, .ref t45]) (by simp), e55, (by show 9 ≤ sizeLine; decide), fun l56 nl56 => ?_⟩
      have ncl56 : l56 ≠ c := L55.pen.nec nl56
      have e56 : (upd H55 l56 (.lst ([.ref t24, .ref t27, .ref t29, .ref t34, .ref t37, .ref t42, .ref t45] ++ [.ref t51, .ref t54]))) l56 = some (.lst [.ref t24, .ref t27, .ref t29, .ref t34, .ref t37, .ref t42, .ref t45, .ref t51, .ref t54]) := upd_same
      have L56 := (L55.same (same_new (Same.refl H55) (.lst ([.ref t24, .ref t27, .ref t29, .ref t34, .ref t37, .ref t42, .ref t45] ++ [.ref t51, .ref t54])) nl56)).setL e56 ncl56
      generalize upd H55 l56 (.lst ([.ref t24, .ref t27, .ref t29, .ref t34, .ref t37, .ref t42, .ref t45] ++ [.ref t51, .ref t54])) = H56 at L56 e56 ⊢
      clear L54 L55 s55 e55 ncl55 nl55 e56 ncl56 nl56
      refine ⟨_, rfl, ?_⟩
      refine ⟨_, rfl, _, rfl, io2 (L56.z (t := z1) (r := rr) (by simp)) ⟨by omega, (by show 1 ≤ 16; decide), xrr.mono (by omega), sz_one (ham.mono (by omega))⟩ fun z57 H57 s57 hz57 => ?_⟩
      have L57 := L56.same s57
      refine ⟨_, rfl, _, rfl, t, fl, rr, M.cut [am], 200, rfl, .inr (L57.t (by simp)), .inr (L57.t (by simp)), by omega, by omega, xrr, (sz_one ham).cut, by omega, fun w58 R58 H58 s58 hw58 lw58 xw58 vw58 => ⟨(by show 2 ≤ sizeLine; decide), fun t59 nt59 => ?_⟩⟩
      have L59 := (L57.same s58).pair (R := M.prod rr [am]) (S := R58) nt59 (hz57.same s58) hw58 (fun n => by rw [M.prod_val, vw58, M.cut_val])
      generalize upd H58 t59 (.tup [.ref z57, .ref w58]) = H59 at L59 ⊢
      clear L56 L57 s57 hz57 s58 hw58 nt59
      refine ⟨(by show 1 ≤ sizeLine; decide), fun l60 nl60 => ?_⟩
      have ncl60 : l60 ≠ c := L59.pen.nec nl60
      have s60 := same_new (Same.refl H59) (.lst [.ref t59]) nl60
      have e60 : (upd H59 l60 (.lst [.ref t59])) l60 = some (.lst [.ref t59]) := upd_same
      have L60 := L59.same s60
      generalize upd H59 l60 (.lst [.ref t59]) = H60 at L60 s60 e60 ⊢
      refine ⟨l56, l60, _, _, rfl, rfl, L60.l (r := [.ref t24, .ref t27, .ref t29, .ref t34, .ref t37, .ref t42, .ref t45, .ref t51, .ref t54]) (by simp), e60, (by show 10 ≤ sizeLine; decide), fun l61 nl61 => ?_⟩
      have ncl61 : l61 ≠ c := L60.pen.nec nl61
      have e61 : (upd H60 l61 (.lst ([.ref t24, .ref t27, .ref t29, .ref t34, .ref t37, .ref t42, .ref t45, .ref t51, .ref t54] ++ [.ref t59]))) l61 = some (.lst [.ref t24, .ref t27, .ref t29, .ref t34, .ref t37, .ref t42, .ref t45, .ref t51, .ref t54, .ref t59]) := upd_same
      have L61 := (L60.same (same_new (Same.refl H60) (.lst ([.ref t24, .ref t27, .ref t29, .ref t34, .ref t37, .ref t42, .ref t45, .ref t51, .ref t54] ++ [.ref t59])) nl61)).setL e61 ncl61
      generalize upd H60 l61 (.lst ([.ref t24, .ref t27, .ref t29, .ref t34, .ref t37, .ref t42, .ref t45, .ref t51, .ref t54] ++ [.ref t59])) = H61 at L61 e61 ⊢
      clear L59 L60 s60 e60 ncl60 nl60 e61 ncl61 nl61
      refine ⟨_, rfl, .inl ⟨rfl, _, .inl (.inl (L61.l (t := l61) (r := [.ref t24, .ref t27, .ref t29, .ref t34, .ref t37, .ref t42, .ref t45, .ref t51, .ref t54, .ref t59]) (by simp)))⟩, ?_⟩
      refine ⟨_, rfl, _, rfl, mv1 (L61.z (t := z1) (r := rr) (by simp)) (by omega) (xrr.mono (by omega)) (hby.mono (by omega)) fun z62 H62 s62 hz62 => ?_⟩
      have L62 := L61.same s62
      have ht62 := L62.t (t := t) (r := rr) (by simp)
      refine ⟨_, rfl, t, _, rfl, .inr ht62, (rr.length : Int), by rw [List.length_map], by omega, by omega, fun D hD => ?_⟩
      rw [show (rr.length : Int).toNat = rr.length by omega]
      refine ZK.lc_growR rr.length (small1000 (by omega)) (fun _ H' => Same H62 H') (fun i y => y = .int (M.val rr ((i : Int) + -by_))) (same_new (Same.refl _) _ hD) ?_ ?_
      · intro j Hx acc hj sx hacc hal hR Qn hq
        rw [Int.zero_add]
        have hv : Sz 201 ((j : Int) + -by_) := Sz.add (a := 200) (Sz.mono (a := 6) (by unfold Sz; omega) (by omega)) hby.neg
        exact ⟨rfl, _, rfl, _, rfl, _, rfl, _, _, rfl, rfl, t, rr, (j : Int) + -by_, 201, 200, congrArg (fun z => [V.ref t, V.int z]) Int.sub_eq_add_neg, .inr (sqT_same sx ht62), by omega, xrr, by omega, by omega, by omega, hv, fun Hy sy => hq _ _ rfl (sy _ _ hacc) (same_but_new (sx.trans sy) hD)⟩
      intro H63 acc s63 hacc hal hR
      have eg := ZK.eq_map hal hR
      refine ⟨D, M.vals (fun n => M.val rr (n + -by_)) rr.length, rfl, .inl (SqL.of (by rw [hacc, eg]; unfold M.vals; rw [List.map_map]; rfl)), by rw [M.vals_len]; omega, fun w64 H64 s64 hw64 => ⟨(by show 2 ≤ sizeLine; decide), fun t65 nt65 => ?_⟩⟩
      have L65 := ((L62.same s63).same s64).pair (R := M.ah rr (-1 * by_)) (S := M.thr (M.vals (fun n => M.val rr (n + -by_)) rr.length)) nt65 ((hz62.same s63).same s64) hw64 (fun n => by rw [M.ah_val, M.move_law, show (-1 : Int) * by_ = -by_ by omega])
      generalize upd H64 t65 (.tup [.ref z62, .ref w64]) = H65 at L65 ⊢
      clear L61 L62 s62 hz62 s64 hw64 nt65 eg hR hacc hal hD s63 ht62 acc
      refine ⟨l61, _, _, rfl, rfl, L65.l (t := l61) (r := [.ref t24, .ref t27, .ref t29, .ref t34, .ref t37, .ref t42, .ref t45, .ref t51, .ref t54, .ref t59]) (by simp), (by show 10 < sizeLine; exact small1000 (by omega)), ?_⟩
      have L66 := L65.app (v := .ref t65)
      clear L65
      generalize upd H65 l61 (.lst ([.ref t24, .ref t27, .ref t29, .ref t34, .ref t37, .ref t42, .ref t45, .ref t51, .ref t54, .ref t59] ++ [.ref t65])) = H66 at L66 ⊢
      replace L66 := L66.setL (xs := [.ref t24, .ref t27, .ref t29, .ref t34, .ref t37, .ref t42, .ref t45, .ref t51, .ref t54, .ref t59, .ref t65]) (L66.l (by simp)) (L66.lc (l61, [.ref t24, .ref t27, .ref t29, .ref t34, .ref t37, .ref t42, .ref t45, .ref t51, .ref t54, .ref t59, .ref t65]) (by simp))
      refine ⟨_, rfl, .inl ⟨rfl, _, .inl (.inl (L66.l (t := l61) (r := [.ref t24, .ref t27, .ref t29, .ref t34, .ref t37, .ref t42, .ref t45, .ref t51, .ref t54, .ref t59, .ref t65]) (by simp)))⟩, ?_⟩
      refine ⟨_, rfl, _, rfl, mv1 (L66.z (t := z1) (r := rr) (by simp)) (by omega) (xrr.mono (by omega)) (hby.mono (by omega)) fun z67 H67 s67 hz67 => ?_⟩
      have L67 := L66.same s67
      have ht67 := L67.t (t := t) (r := rr) (by simp)
      refine ⟨_, rfl, t, _, rfl, .inr ht67, (rr.length : Int), by rw [List.length_map], by omega, by omega, fun D hD => ?_⟩
      rw [show (rr.length : Int).toNat = rr.length by omega]
      refine ZK.lc_growR rr.length (small1000 (by omega)) (fun _ H' => Same H67 H') (fun i y => y = .int (M.val rr ((i : Int) + by_))) (same_new (Same.refl _) _ hD) ?_ ?_
      · intro j Hx acc hj sx hacc hal hR Qn hq
        rw [Int.zero_add]
        have hv : Sz 201 ((j : Int) + by_) := Sz.add (a := 200) (Sz.mono (a := 6) (by unfold Sz; omega) (by omega)) hby
        exact ⟨rfl, _, rfl, _, rfl, _, rfl, _, _, rfl, rfl, t, rr, (j : Int) + by_, 201, 200, rfl, .inr (sqT_same sx ht67), by omega, xrr, by omega, by omega, by omega, hv, fun Hy sy => hq _ _ rfl (sy _ _ hacc) (same_but_new (sx.trans sy) hD)⟩
      intro H68 acc s68 hacc hal hR
      have eg := ZK.eq_map hal hR
      refine ⟨D, M.vals (fun n => M.val rr (n + by_)) rr.length, rfl, .inl (SqL.of (by rw [hacc, eg]; unfold M.vals; rw [List.map_map]; rfl)), by rw [M.vals_len]; omega, fun w69 H69 s69 hw69 => ⟨(by show 2 ≤ sizeLine; decide), fun t70 nt70 => ?_⟩⟩
      have L70 := ((L67.same s68).same s69).pair (R := M.ah rr (1 * by_)) (S := M.thr (M.vals (fun n => M.val rr (n + by_)) rr.length)) nt70 ((hz67.same s68).same s69) hw69 (fun n => by rw [M.ah_val, M.move_law, show (1 : Int) * by_ = by_ by omega])
      generalize upd H69 t70 (.tup [.ref z67, .ref w69]) = H70 at L70 ⊢
      clear L66 L67 s67 hz67 s69 hw69 nt70 eg hR hacc hal hD s68 ht67 acc
      refine ⟨l61, _, _, rfl, rfl, L70.l (t := l61) (r := [.ref t24, .ref t27, .ref t29, .ref t34, .ref t37, .ref t42, .ref t45, .ref t51, .ref t54, .ref t59, .ref t65]) (by simp), (by show 11 < sizeLine; exact small1000 (by omega)), ?_⟩
      have L71 := L70.app (v := .ref t70)
      clear L70
      generalize upd H70 l61 (.lst ([.ref t24, .ref t27, .ref t29, .ref t34, .ref t37, .ref t42, .ref t45, .ref t51, .ref t54, .ref t59, .ref t65] ++ [.ref t70])) = H71 at L71 ⊢
      replace L71 := L71.setL (xs := [.ref t24, .ref t27, .ref t29, .ref t34, .ref t37, .ref t42, .ref t45, .ref t51, .ref t54, .ref t59, .ref t65, .ref t70]) (L71.l (by simp)) (L71.lc (l61, [.ref t24, .ref t27, .ref t29, .ref t34, .ref t37, .ref t42, .ref t45, .ref t51, .ref t54, .ref t59, .ref t65, .ref t70]) (by simp))
      have cv : cutV (rr.map V.int) none (some 4) = (rr.take 4).map V.int := by rw [List.map_take]; exact cutV_take 4
      have lq : (rr.take 4).length ≤ 4 := by rw [List.length_take]; omega
      have xq : SzA 200 (rr.take 4) := fun x hx => xrr x (List.mem_of_mem_take hx)
      have lcq : (M.cut (rr.take 4)).length ≤ 4 := Nat.le_trans (cut_len _) lq
      refine ⟨_, rfl, _, rfl, ZK.slS (k := .t) (L71.t (t := t) (r := rr) (by simp)) fun pa H72 s72 hp72 => ?_⟩
      rw [cv] at hp72
      have L72 := L71.same s72
      refine fun zl dl nzl ndl nel => madeQ (r := rr.take 4) (.inr hp72) (by omega) nzl ndl nel fun H73 s73 hzl => ⟨rfl, ?_⟩
      have L73 := (L72.same s73).addZ hzl
      clear L71 L72 s72 hp72 s73 hzl nzl ndl nel
      refine ⟨_, rfl, _, rfl, ZK.slS (k := .t) (L73.t (t := t) (r := rr) (by simp)) fun pb H74 s74 hp74 => ?_⟩
      rw [cv] at hp74
      have L74 := (L73.same s74).addT (t := pb) (r := rr.take 4) hp74
      refine ⟨_, rfl, _, rfl, ZK.slS (k := .t) (L74.t (t := t) (r := rr) (by simp)) fun pc H75 s75 hp75 => ?_⟩
      rw [cv] at hp75
      have L75 := L74.same s75
      refine ⟨pb, pc, rr.take 4, rr.take 4, 200, rfl, .inr (L75.t (by simp)), .inr hp75, by omega, by omega, xq, xq, by omega, fun sq Sq H76 s76 hsq lSq xSq vSq => ⟨_, _, rfl, ?_⟩⟩
      have L76 := ((L75.same s76).addT hsq).less (ts' := [(sq, M.cut Sq), (aw, M.times rr (-1)), (fl, M.cut [am]), (u', oo), (t, rr)]) (zs' := [(zl, M.cut (rr.take 4)), (z2, oo), (z1, rr)]) (fun q hq => by simp only [List.mem_cons, List.not_mem_nil, or_false] at hq ⊢; rcases hq with h | h | h | h | h <;> simp [h]) (fun q hq => by simp only [List.mem_cons, List.not_mem_nil, or_false] at hq ⊢; rcases hq with h | h | h <;> simp [h])
      clear L73 L74 L75 s74 s75 s76 hp74 hp75 hsq
      refine ⟨_, rfl, ?_⟩
      refine ⟨_, rfl, pw1 (e := 0) (L76.z (t := zl) (r := M.cut (rr.take 4)) (by simp)) lcq (xq.cut.mono (by omega)) (by decide) rfl fun z77 R77 H77 s77 hz77 hv77 => ?_⟩
      have L77 := L76.same s77
      refine ⟨(by show 1 ≤ sizeLine; decide), fun w78 nw78 => ?_⟩
      have s78 := same_new (Same.refl H77) (.tup [.int 1]) nw78
      have hw78 : SqT K (upd H77 w78 (.tup [.int 1])) w78 ((M.cut [1]).map V.int) := SqT.of upd_same
      have L78 := L77.same s78
      generalize upd H77 w78 (.tup [.int 1]) = H78 at s78 hw78 L78 ⊢
      refine ⟨(by show 2 ≤ sizeLine; decide), fun t79 nt79 => ?_⟩
      have L79 := L78.pair (R := R77) (S := [1]) nt79 (hz77.same s78) hw78 (fun n => by rw [hv77, val_one, Int.pow_zero])
      generalize upd H78 t79 (.tup [.ref z77, .ref w78]) = H79 at L79 ⊢
      clear L76 L77 s77 hz77 hv77 nt79 L78 s78 hw78 nw78
      refine ⟨_, rfl, pw1 (e := 1) (L79.z (t := zl) (r := M.cut (rr.take 4)) (by simp)) lcq (xq.cut.mono (by omega)) (by decide) rfl fun z80 R80 H80 s80 hz80 hv80 => ?_⟩
      have L80 := L79.same s80
      refine ⟨_, rfl, _, rfl, ZK.slS (k := .t) (L80.t (t := t) (r := rr) (by simp)) fun pd H81 s81 hp81 => ?_⟩
      rw [cv] at hp81
      refine ⟨pd, rr.take 4, rfl, .inr hp81, by omega, fun w82 H82 s82 hw82 => ⟨(by show 2 ≤ sizeLine; decide), fun t83 nt83 => ?_⟩⟩
      have L83 := ((L80.same s81).same s82).pair (R := R80) (S := rr.take 4) nt83 ((hz80.same s81).same s82) hw82 (fun n => by rw [hv80, Int.pow_one, M.cut_val])
      generalize upd H82 t83 (.tup [.ref z80, .ref w82]) = H83 at L83 ⊢
      clear L79 L80 s80 hz80 hv80 nt83 s81 hp81 s82 hw82
      refine ⟨_, rfl, pw1 (e := 2) (L83.z (t := zl) (r := M.cut (rr.take 4)) (by simp)) lcq (xq.cut.mono (by omega)) (by decide) rfl fun z84 R84 H84 s84 hz84 hv84 => ?_⟩
      have L84 := L83.same s84
      refine ⟨_, rfl, (by show 2 ≤ sizeLine; decide), fun t85 nt85 => ?_⟩
      have L85 := L84.pair (R := R84) (S := Sq) nt85 hz84 (L84.t (t := sq) (r := M.cut Sq) (by simp)) (fun n => by rw [hv84, vSq, Int.pow_succ, Int.pow_one, M.cut_val])
      generalize upd H84 t85 (.tup [.ref z84, .ref sq]) = H85 at L85 ⊢
      clear L83 L84 s84 hz84 hv84 nt85 
      refine ⟨(by show 3 ≤ sizeLine; decide), fun l86 nl86 => ?_⟩
      have s86 := same_new (Same.refl H85) (.lst [.ref t79, .ref t83, .ref t85]) nl86
      have e86 : (upd H85 l86 (.lst [.ref t79, .ref t83, .ref t85])) l86 = some (.lst [.ref t79, .ref t83, .ref t85]) := upd_same
      have L86 := L85.same s86
      generalize upd H85 l86 (.lst [.ref t79, .ref t83, .ref t85]) = H86 at L86 s86 e86 ⊢
      refine ⟨l61, l86, _, _, rfl, rfl, L86.l (r := [.ref t24, .ref t27, .ref t29, .ref t34, .ref t37, .ref t42, .ref t45, .ref t51, .ref t54, .ref t59, .ref t65, .ref t70]) (by simp), e86, (by show 15 ≤ sizeLine; decide), fun l87 nl87 => ?_⟩
      have ncl87 : l87 ≠ c := L86.pen.nec nl87
      have e87 : (upd H86 l87 (.lst ([.ref t24, .ref t27, .ref t29, .ref t34, .ref t37, .ref t42, .ref t45, .ref t51, .ref t54, .ref t59, .ref t65, .ref t70] ++ [.ref t79, .ref t83, .ref t85]))) l87 = some (.lst [.ref t24, .ref t27, .ref t29, .ref t34, .ref t37, .ref t42, .ref t45, .ref t51, .ref t54, .ref t59, .ref t65, .ref t70, .ref t79, .ref t83, .ref t85]) := upd_same
      have L87 := (L86.same (same_new (Same.refl H86) (.lst ([.ref t24, .ref t27, .ref t29, .ref t34, .ref t37, .ref t42, .ref t45, .ref t51, .ref t54, .ref t59, .ref t65, .ref t70] ++ [.ref t79, .ref t83, .ref t85])) nl87)).setL e87 ncl87
      generalize upd H86 l87 (.lst ([.ref t24, .ref t27, .ref t29, .ref t34, .ref t37, .ref t42, .ref t45, .ref t51, .ref t54, .ref t59, .ref t65, .ref t70] ++ [.ref t79, .ref t83, .ref t85])) = H87 at L87 e87 ⊢
      clear L85 L86 s86 e86 nl86 e87 ncl87 nl87
      refine ⟨_, rfl, .inl ⟨rfl, _, .inl (.inl (L87.l (t := l87) (r := [.ref t24, .ref t27, .ref t29, .ref t34, .ref t37, .ref t42, .ref t45, .ref t51, .ref t54, .ref t59, .ref t65, .ref t70, .ref t79, .ref t83, .ref t85]) (by simp)))⟩, ?_⟩
      refine ⟨_, rfl, pw1 (e := 3) (L87.z (t := zl) (r := M.cut (rr.take 4)) (by simp)) lcq (xq.cut.mono (by omega)) (by decide) rfl fun z88 R88 H88 s88 hz88 hv88 => ?_⟩
      have L88 := L87.same s88
      refine ⟨_, rfl, _, rfl, _, rfl, ZK.slS (k := .t) (L88.t (t := t) (r := rr) (by simp)) fun pe H89 s89 hp89 => ?_⟩
      rw [cv] at hp89
      refine ⟨sq, pe, M.cut Sq, rr.take 4, 800, rfl, .inr ((L88.same s89).t (by simp)), .inr hp89, by have := cut_len Sq; omega, by omega, xSq.cut, xq.mono (by omega), by omega, fun w90 R90 H90 s90 hw90 lw90 xw90 vw90 => ⟨(by show 2 ≤ sizeLine; decide), fun t91 nt91 => ?_⟩⟩
      have L91 := ((L88.same s89).same s90).pair (R := R88) (S := R90) nt91 ((hz88.same s89).same s90) hw90 (fun n => by rw [hv88, vw90, M.cut_val, M.cut_val, vSq, Int.pow_succ, Int.pow_succ, Int.pow_one])
      generalize upd H90 t91 (.tup [.ref z88, .ref w90]) = H91 at L91 ⊢
      clear L87 L88 s88 hz88 hv88 nt91 s89 hp89 s90 hw90
      refine ⟨l87, _, _, rfl, rfl, L91.l (t := l87) (r := [.ref t24, .ref t27, .ref t29, .ref t34, .ref t37, .ref t42, .ref t45, .ref t51, .ref t54, .ref t59, .ref t65, .ref t70, .ref t79, .ref t83, .ref t85]) (by simp), (by show 15 < sizeLine; exact small1000 (by omega)), ?_⟩
      have L92 := L91.app (v := .ref t91)
      clear L91
      generalize upd H91 l87 (.lst ([.ref t24, .ref t27, .ref t29, .ref t34, .ref t37, .ref t42, .ref t45, .ref t51, .ref t54, .ref t59, .ref t65, .ref t70, .ref t79, .ref t83, .ref t85] ++ [.ref t91])) = H92 at L92 ⊢
      replace L92 := L92.setL (xs := [.ref t24, .ref t27, .ref t29, .ref t34, .ref t37, .ref t42, .ref t45, .ref t51, .ref t54, .ref t59, .ref t65, .ref t70, .ref t79, .ref t83, .ref t85, .ref t91]) (L92.l (by simp)) (L92.lc (l87, [.ref t24, .ref t27, .ref t29, .ref t34, .ref t37, .ref t42, .ref t45, .ref t51, .ref t54, .ref t59, .ref t65, .ref t70, .ref t79, .ref t83, .ref t85, .ref t91]) (by simp))
      have hl92 := L92.l (t := l87) (r := [.ref t24, .ref t27, .ref t29, .ref t34, .ref t37, .ref t42, .ref t45, .ref t51, .ref t54, .ref t59, .ref t65, .ref t70, .ref t79, .ref t83, .ref t85, .ref t91]) (by simp)
      have hd92 : ∀ v ∈ ([.ref t24, .ref t27, .ref t29, .ref t34, .ref t37, .ref t42, .ref t45, .ref t51, .ref t54, .ref t59, .ref t65, .ref t70, .ref t79, .ref t83, .ref t85, .ref t91] : List V), DueF K C_Size H92 v := fun v hv => L92.du v (by
        simp only [List.mem_cons, List.not_mem_nil, or_false] at hv ⊢
        rcases hv with h | h | h | h | h | h | h | h | h | h | h | h | h | h | h | h <;> simp [h])
      have L93 := L92.less (ts' := [(fl, M.cut [am]), (u', oo), (t, rr)]) (zs' := [(z2, oo), (z1, rr)]) (fun q hq => by simp only [List.mem_cons, List.not_mem_nil, or_false] at hq ⊢; rcases hq with h | h | h <;> simp [h]) (fun q hq => by simp only [List.mem_cons, List.not_mem_nil, or_false] at hq ⊢; rcases hq with h | h <;> simp [h])
      refine hread _ _ _ _ _ _ _ _ _ _ _ _ _ _ _ _ _ _ _ _ _ _ _ _ _ _ ⟨L93.pen, by omega, L93.tabs, L93.t (t := t) (r := rr) (by simp), L93.t (t := u') (r := oo) (by simp), L93.t (t := fl) (r := M.cut [am]) (by simp), L93.z (t := z1) (r := rr) (by simp), L93.z (t := z2) (r := oo) (by simp), hrr, hoo, by omega, by omega, xrr, xoo⟩ hl92 hd92 (by show 16 ≤ 100; decide) fun H94 P94 T94 => ?_
      exact ⟨_, _, _, _, _, _, _, _, _, _, _, _, P94.more (by omega) (by omega), T94, rfl⟩
    · rintro σ H11 ⟨v2, v3, v4, v5, v6, v7, v8, v9, v10, v11, v12, v13, P11, T11, rfl⟩
      exact k _
end
end EN

namespace EN
open PySem L2 PyProof.Rows
section
variable {P : Program} {w : World} {K : PySem.W.Frag} {mg : Str → Option Value} {base : Heap} {f : Addr} {fd : FuncData}
/-! ### what except and isinstance ask of classes -/
theorem cls_some {B : Addr} {T : Value} {b : Bool} (s : PySem.W.subIn K (.ref B) T = some b) : (PySem.W.clsIn K B).isSome = true := by
  unfold PySem.W.subIn PySem.W.mroIn at s
  obtain ⟨cd, h, _⟩ := Option.bind_eq_some_iff.mp s
  rw [h]
  rfl
theorem kitCls_of {A : Value} {B : Addr} {b : Bool} (x : PySem.W.subIn K (.ref B) (.type "BaseException") = some true) (t : PySem.W.typeIn K (.ref B) = some (.type "type")) (s : PySem.W.subIn K A (.ref B) = some b) : PySem.W.kitCls K A (.ref B) = some b := by
  unfold PySem.W.kitCls
  dsimp only
  rw [cls_some x, t, if_pos (by decide)]
  exact s
theorem exm_of {A B : Addr} {b : Bool} (x : PySem.W.subIn K (.ref B) (.type "BaseException") = some true) (t : PySem.W.typeIn K (.ref B) = some (.type "type")) (s : PySem.W.subIn K (.ref A) (.ref B) = some b) : PySem.W.exmOne K (.ref A) (.ref B) = some b := by
  unfold PySem.W.exmOne
  rw [x, if_pos (by decide)]
  exact kitCls_of x t s
theorem kit_of {A B : Addr} {b : Bool} (x : PySem.W.subIn K (.ref B) (.type "BaseException") = some true) (t : PySem.W.typeIn K (.ref B) = some (.type "type")) (r : PySem.W.subIn K (.ref A) (.ref A) = some true) (s : PySem.W.subIn K (.ref A) (.ref B) = some b) : PySem.W.kitOne K (.ref A) (.ref B) = some b := by
  unfold PySem.W.kitOne
  split
  · rename_i h
    have e := beq_iff_eq.mp h
    cases e
    rw [r] at s
    exact s
  · exact kitCls_of x t s
theorem kit_T {A : Addr} {T : String} {b : Bool} (m : PySem.W.kitMeta T = true) (s : PySem.W.subIn K (.ref A) (.type T) = some b) : PySem.W.kitOne K (.ref A) (.type T) = some b := by
  unfold PySem.W.kitOne
  have e : (Value.ref A == Value.type T) = false := Bool.eq_false_iff.mpr fun q => nomatch beq_iff_eq.mp q
  rw [e, if_neg (by decide)]
  unfold PySem.W.kitCls
  dsimp only
  rw [m, if_pos rfl]
  exact s
end
end EN

namespace EN
open PySem L2 PyProof.Rows
section
variable {P : Program} {w : World} {K : PySem.W.Frag} {mg : Str → Option Value} {base : Heap} {f : Addr} {fd : FuncData}
abbrev s_nxinit : Stmt := inClass (top 4) 0
abbrev N_nxinit : List Str := ["self", "by"]
theorem sc_nxinit : FnScope N_nxinit ["self", "by"] (defScope s_nxinit) := ⟨rfl, rfl, rfl, by decide +kernel, rfl, by decide +kernel, by decide +kernel⟩

theorem ok_nxinit {C : Addr} (F : Fun K "__init__" "NotExact.__init__" s_nxinit f fd) : FnOk P w K mg base CX0 1 f fd ["self", "by"] (spEx1 K C "by") := by
  refine F.ok sc_nxinit (fun vs H Q E h => ?_) (fun cdv A outer s H vs Q E hr h => ?_)
  · obtain ⟨_, _, rfl, _⟩ := h
    rfl
  · obtain ⟨a, v, rfl, T, no, ha, k⟩ := h
    refine ⟨_, (pss_one (ps_ost (pv 0) (pv 1))), ?_⟩
    exact ⟨_, rfl, _, rfl, a, C, rfl, T, no, .inl ⟨ha, fun dx h1 h2 => k dx h1 h2⟩⟩
end
end EN

namespace EN
open PySem L2 PyProof.Rows
section
variable {P : Program} {w : World} {K : PySem.W.Frag} {mg : Str → Option Value} {base : Heap} {f : Addr} {fd : FuncData}
theorem has_of {h : Heap} {x : Str} {st : Stmt} {k : Nat} {ps : List Str} {sp : Sp} (X : K.In h) (G : h.Ns mainGlobals mg) (F : Fun K x x st f fd) (a : PySem.W.nsIn K mainGlobals x = some (some (.ref f))) (ok : FnOk P w K mg base CX0 k f fd ps sp) (b : Binds K fd ps []) : Has P w K mg base k x ps sp := ⟨f, fd, ok, PySem.W.mg_of X G a, F.kp, b⟩
theorem rawN {k : Nat} {ps : List Str} {sp : Sp} (ok : FnOk P w K mg base CX0 k f fd ps sp) (b : Binds K fd ps []) : FnR P w K mg base CX0 k f sp := by
  have r := ok.raw b .nil
  refine FnR.imp r fun vs H Q E hs => ?_
  rw [List.append_nil]
  exact hs
theorem rawX {k : Nat} {ps : List Str} {sp : Sp} (ok : FnOk P w K mg base (L2.CX P w) k f fd ps sp) (b : Binds K fd ps []) : FnR P w K mg base (L2.CX P w) k f sp := by
  have r := ok.raw b .nil
  refine FnR.imp r fun vs H Q E hs => ?_
  rw [List.append_nil]
  exact hs
end
section
theorem all_mk {l : PySem.W.OpenLaw} {w : World} {K : PySem.W.Frag} {h : Heap} {mg : Str → Option Value} {fa : Addr} (X : K.In h) (G : h.Ns mainGlobals mg) (hfa : mg "law" = some (.ref fa))
    {f_nxinit f_pen f_draw f_pick f_lwhole f_great f_integer f_choose f_lat f_cut f_lrowof f_lrow f_lplus f_ltimes f_sizeis f_is_whole f_check_whole f_check_from f_check_wholes f_chooses f_row_value f_row_through f_row_ahead f_trimmed f_row_sum f_row_times f_row_less f_row_product f_row_of f_sinit f_sneg f_sadd f_ssub f_smul f_sradd f_srsub f_srmul f_srshift f_slshift f_spow f_seq_ f_sfloordiv f_lerror f_ldivided f_law C_Size C_EverynameError C_BadValue C_NotExact C_EmptySpan C_NoBound NX_NotExact TI_sinit T0_sinit : Addr} {od_nxinit an_nxinit od_pen an_pen od_draw an_draw od_pick an_pick od_lwhole an_lwhole od_great an_great od_integer an_integer od_choose an_choose od_lat an_lat od_cut an_cut od_lrowof an_lrowof od_lrow an_lrow od_lplus an_lplus od_ltimes an_ltimes od_sizeis an_sizeis od_is_whole an_is_whole od_check_whole an_check_whole od_check_from an_check_from od_check_wholes an_check_wholes od_chooses an_chooses od_row_value an_row_value od_row_through an_row_through od_row_ahead an_row_ahead od_trimmed an_trimmed od_row_sum an_row_sum od_row_times an_row_times od_row_less an_row_less od_row_product an_row_product od_row_of an_row_of od_sinit an_sinit od_sneg an_sneg od_sadd an_sadd od_ssub an_ssub od_smul an_smul od_sradd an_sradd od_srsub an_srsub od_srmul an_srmul od_srshift an_srshift od_slshift an_slshift od_spow an_spow od_seq_ an_seq_ od_sfloordiv an_sfloordiv od_lerror an_lerror od_ldivided an_ldivided od_law an_law odTI_sinit odT0_sinit : Option Addr} {sl_nxinit sl_pen sl_draw sl_pick sl_lwhole sl_great sl_integer sl_choose sl_lat sl_cut sl_lrowof sl_lrow sl_lplus sl_ltimes sl_sizeis sl_is_whole sl_check_whole sl_check_from sl_check_wholes sl_chooses sl_row_value sl_row_through sl_row_ahead sl_trimmed sl_row_sum sl_row_times sl_row_less sl_row_product sl_row_of sl_sinit sl_sneg sl_sadd sl_ssub sl_smul sl_sradd sl_srsub sl_srmul sl_srshift sl_slshift sl_spow sl_seq_ sl_sfloordiv sl_lerror sl_ldivided sl_law slTI_sinit slT0_sinit : Array (Option Value)}
    {oc_nxinit kV_nxinit dc_nxinit pm_nxinit cd_nxinit ct_nxinit oc_pen kV_pen dc_pen pm_pen cd_pen ct_pen oc_draw kV_draw dc_draw pm_draw cd_draw ct_draw oc_pick kV_pick dc_pick pm_pick cd_pick ct_pick oc_lwhole kV_lwhole dc_lwhole pm_lwhole cd_lwhole ct_lwhole oc_great kV_great dc_great pm_great cd_great ct_great oc_integer kV_integer dc_integer pm_integer cd_integer ct_integer oc_choose kV_choose dc_choose pm_choose cd_choose ct_choose oc_lat kV_lat dc_lat pm_lat cd_lat ct_lat oc_cut kV_cut dc_cut pm_cut cd_cut ct_cut oc_lrowof kV_lrowof dc_lrowof pm_lrowof cd_lrowof ct_lrowof oc_lrow kV_lrow dc_lrow pm_lrow cd_lrow ct_lrow oc_lplus kV_lplus dc_lplus pm_lplus cd_lplus ct_lplus oc_ltimes kV_ltimes dc_ltimes pm_ltimes cd_ltimes ct_ltimes oc_sizeis kV_sizeis dc_sizeis pm_sizeis cd_sizeis ct_sizeis oc_is_whole kV_is_whole dc_is_whole pm_is_whole cd_is_whole ct_is_whole oc_check_whole kV_check_whole dc_check_whole pm_check_whole cd_check_whole ct_check_whole oc_check_from kV_check_from dc_check_from pm_check_from cd_check_from ct_check_from oc_check_wholes kV_check_wholes dc_check_wholes pm_check_wholes cd_check_wholes ct_check_wholes oc_chooses kV_chooses dc_chooses pm_chooses cd_chooses ct_chooses oc_row_value kV_row_value dc_row_value pm_row_value cd_row_value ct_row_value oc_row_through kV_row_through dc_row_through pm_row_through cd_row_through ct_row_through oc_row_ahead kV_row_ahead dc_row_ahead pm_row_ahead cd_row_ahead ct_row_ahead oc_trimmed kV_trimmed dc_trimmed pm_trimmed cd_trimmed ct_trimmed oc_row_sum kV_row_sum dc_row_sum pm_row_sum cd_row_sum ct_row_sum oc_row_times kV_row_times dc_row_times pm_row_times cd_row_times ct_row_times oc_row_less kV_row_less dc_row_less pm_row_less cd_row_less ct_row_less oc_row_product kV_row_product dc_row_product pm_row_product cd_row_product ct_row_product oc_row_of kV_row_of dc_row_of pm_row_of cd_row_of ct_row_of oc_sinit kV_sinit dc_sinit pm_sinit cd_sinit ct_sinit oc_sneg kV_sneg dc_sneg pm_sneg cd_sneg ct_sneg oc_sadd kV_sadd dc_sadd pm_sadd cd_sadd ct_sadd oc_ssub kV_ssub dc_ssub pm_ssub cd_ssub ct_ssub oc_smul kV_smul dc_smul pm_smul cd_smul ct_smul oc_sradd kV_sradd dc_sradd pm_sradd cd_sradd ct_sradd oc_srsub kV_srsub dc_srsub pm_srsub cd_srsub ct_srsub oc_srmul kV_srmul dc_srmul pm_srmul cd_srmul ct_srmul oc_srshift kV_srshift dc_srshift pm_srshift cd_srshift ct_srshift oc_slshift kV_slshift dc_slshift pm_slshift cd_slshift ct_slshift oc_spow kV_spow dc_spow pm_spow cd_spow ct_spow oc_seq_ kV_seq_ dc_seq_ pm_seq_ cd_seq_ ct_seq_ oc_sfloordiv kV_sfloordiv dc_sfloordiv pm_sfloordiv cd_sfloordiv ct_sfloordiv oc_lerror kV_lerror dc_lerror pm_lerror cd_lerror ct_lerror oc_ldivided kV_ldivided dc_ldivided pm_ldivided ct_ldivided oc_law kV_law dc_law pm_law cd_law ct_law ocTI_sinit : Value} {nTI_sinit nT0_sinit : Nat} {bs_NotExact sub_NotExact : List Value} {ra_Size_add rb_Size_add ra_Size_sub rb_Size_sub ra_Size_mul rb_Size_mul ra_Size_rshift rb_Size_rshift ra_Size_lshift rb_Size_lshift ra_Size_pow rb_Size_pow ra_Size_floordiv rb_Size_floordiv : Option Value} {nm_NotExact q_NotExact : Str} {sn_NotExact : List Str} {ab_NotExact : Bool} {col_NotExact : Option Bool} {dd_NotExact : Option Addr} {m0_NotExact m1_NotExact m2_NotExact m3_NotExact m5_NotExact : Option Value}
    {cD PD : Addr} {ocD : Value} {odD : Option Addr} {vsD : Array Value} {slD : Array (Option Value)}
    (aC_Size : PySem.W.nsIn K mainGlobals "Size" = some (some (.ref C_Size)))
    (pg_Size : PySem.W.plainGet K C_Size Str.empty = true)
    (hd_Size : PySem.W.hasDictIn K C_Size = true)
    (po_Size : PySem.W.plainOver K C_Size = true)
    (sa_Size : PySem.W.findIn K (.ref C_Size) "__setattr__" = some (some (.builtin "object.__setattr__")))
    (mk_Size : PySem.W.makesIn K C_Size = true)
    (kC_Size : PySem.W.keepIn K (.ref C_Size) = true)
    (nR_Size_row : PySem.W.findIn K (.ref C_Size) "row" = some none)
    (ha_Size : PySem.W.findIn K (.ref C_Size) "__class__" = some (some (.builtin "object.__class__")))
    (hn_Size : PySem.W.specialIn K (.builtin "object.__class__") "__get__" = some (some (.builtin "getset_descriptor.__get__")))
    (htk_Size : PySem.W.takesIn K (.builtin "object.__class__") = some true)
    (hm_Size : PySem.W.mroIn K C_Size (.type "object") = some true)
    (sf_Size : PySem.W.selfFirst K C_Size = true)
    (ty_Size : PySem.W.typeIn K (.ref C_Size) = some (.type "type"))
    (si_Size : PySem.W.subIn K (.type "int") (.ref C_Size) = some false)
    (st_Size : PySem.W.subIn K (.type "tuple") (.ref C_Size) = some false)
    (ma_Size_add : PySem.W.findIn K (.type "int") "__add__" = some ra_Size_add)
    (mb_Size_add : PySem.W.findIn K (.type "int") "__radd__" = some rb_Size_add)
    (ma_Size_sub : PySem.W.findIn K (.type "int") "__sub__" = some ra_Size_sub)
    (mb_Size_sub : PySem.W.findIn K (.type "int") "__rsub__" = some rb_Size_sub)
    (ma_Size_mul : PySem.W.findIn K (.type "int") "__mul__" = some ra_Size_mul)
    (mb_Size_mul : PySem.W.findIn K (.type "int") "__rmul__" = some rb_Size_mul)
    (ma_Size_rshift : PySem.W.findIn K (.type "int") "__rshift__" = some ra_Size_rshift)
    (mb_Size_rshift : PySem.W.findIn K (.type "int") "__rrshift__" = some rb_Size_rshift)
    (mc_Size_rshift : PySem.W.findIn K (.ref C_Size) "__rrshift__" = some none)
    (ma_Size_lshift : PySem.W.findIn K (.type "int") "__lshift__" = some ra_Size_lshift)
    (mb_Size_lshift : PySem.W.findIn K (.type "int") "__rlshift__" = some rb_Size_lshift)
    (mc_Size_lshift : PySem.W.findIn K (.ref C_Size) "__rlshift__" = some none)
    (ma_Size_pow : PySem.W.findIn K (.type "int") "__pow__" = some ra_Size_pow)
    (mb_Size_pow : PySem.W.findIn K (.type "int") "__rpow__" = some rb_Size_pow)
    (mc_Size_pow : PySem.W.findIn K (.ref C_Size) "__rpow__" = some none)
    (ma_Size_floordiv : PySem.W.findIn K (.type "int") "__floordiv__" = some ra_Size_floordiv)
    (mb_Size_floordiv : PySem.W.findIn K (.type "int") "__rfloordiv__" = some rb_Size_floordiv)
    (mc_Size_floordiv : PySem.W.findIn K (.ref C_Size) "__rfloordiv__" = some none)
    (na_Size : PySem.W.findIn K (.ref C_Size) "__ne__" = some (some (.builtin "object.__ne__")))
    (nb_Size : PySem.W.subIn K (.ref C_Size) (.type "object") = some true)
    (is_Size : PySem.W.subIn K (.ref C_Size) (.type "int") = some false)
    (aC_EverynameError : PySem.W.nsIn K mainGlobals "EverynameError" = some (some (.ref C_EverynameError)))
    (xC_EverynameError : PySem.W.subIn K (.ref C_EverynameError) (.type "BaseException") = some true)
    (ty_EverynameError : PySem.W.typeIn K (.ref C_EverynameError) = some (.type "type"))
    (aC_BadValue : PySem.W.nsIn K mainGlobals "BadValue" = some (some (.ref C_BadValue)))
    (xC_BadValue : PySem.W.subIn K (.ref C_BadValue) (.type "BaseException") = some true)
    (ty_BadValue : PySem.W.typeIn K (.ref C_BadValue) = some (.type "type"))
    (ga_BadValue : PySem.W.findIn K (.ref C_BadValue) "__getattribute__" = some (some (.builtin "BaseException.__getattribute__")))
    (gg_BadValue : PySem.W.findIn K (.ref C_BadValue) "__getattr__" = some none)
    (hd_BadValue : PySem.W.hasDictIn K C_BadValue = true)
    (ha_BadValue : PySem.W.findIn K (.ref C_BadValue) "__class__" = some (some (.builtin "object.__class__")))
    (hm_BadValue : PySem.W.mroIn K C_BadValue (.type "object") = some true)
    (hn_E : PySem.W.specialIn K (.builtin "object.__class__") "__get__" = some (some (.builtin "getset_descriptor.__get__")))
    (ht_E : PySem.W.takesIn K (.builtin "object.__class__") = some true)
    (aC_NotExact : PySem.W.nsIn K mainGlobals "NotExact" = some (some (.ref C_NotExact)))
    (xC_NotExact : PySem.W.subIn K (.ref C_NotExact) (.type "BaseException") = some true)
    (ty_NotExact : PySem.W.typeIn K (.ref C_NotExact) = some (.type "type"))
    (ga_NotExact : PySem.W.findIn K (.ref C_NotExact) "__getattribute__" = some (some (.builtin "BaseException.__getattribute__")))
    (gg_NotExact : PySem.W.findIn K (.ref C_NotExact) "__getattr__" = some none)
    (hd_NotExact : PySem.W.hasDictIn K C_NotExact = true)
    (ha_NotExact : PySem.W.findIn K (.ref C_NotExact) "__class__" = some (some (.builtin "object.__class__")))
    (hm_NotExact : PySem.W.mroIn K C_NotExact (.type "object") = some true)
    (aC_EmptySpan : PySem.W.nsIn K mainGlobals "EmptySpan" = some (some (.ref C_EmptySpan)))
    (xC_EmptySpan : PySem.W.subIn K (.ref C_EmptySpan) (.type "BaseException") = some true)
    (ty_EmptySpan : PySem.W.typeIn K (.ref C_EmptySpan) = some (.type "type"))
    (ga_EmptySpan : PySem.W.findIn K (.ref C_EmptySpan) "__getattribute__" = some (some (.builtin "BaseException.__getattribute__")))
    (gg_EmptySpan : PySem.W.findIn K (.ref C_EmptySpan) "__getattr__" = some none)
    (hd_EmptySpan : PySem.W.hasDictIn K C_EmptySpan = true)
    (ha_EmptySpan : PySem.W.findIn K (.ref C_EmptySpan) "__class__" = some (some (.builtin "object.__class__")))
    (hm_EmptySpan : PySem.W.mroIn K C_EmptySpan (.type "object") = some true)
    (aC_NoBound : PySem.W.nsIn K mainGlobals "NoBound" = some (some (.ref C_NoBound)))
    (xC_NoBound : PySem.W.subIn K (.ref C_NoBound) (.type "BaseException") = some true)
    (ty_NoBound : PySem.W.typeIn K (.ref C_NoBound) = some (.type "type"))
    (ga_NoBound : PySem.W.findIn K (.ref C_NoBound) "__getattribute__" = some (some (.builtin "BaseException.__getattribute__")))
    (gg_NoBound : PySem.W.findIn K (.ref C_NoBound) "__getattr__" = some none)
    (hd_NoBound : PySem.W.hasDictIn K C_NoBound = true)
    (ha_NoBound : PySem.W.findIn K (.ref C_NoBound) "__class__" = some (some (.builtin "object.__class__")))
    (hm_NoBound : PySem.W.mroIn K C_NoBound (.type "object") = some true)
    (nF_BadValue_shown : PySem.W.findIn K (.ref C_BadValue) "shown" = some none)
    (nF_NotExact_by : PySem.W.findIn K (.ref C_NotExact) "by" = some none)
    (su_BadValue_EverynameError : PySem.W.subIn K (.ref C_BadValue) (.ref C_EverynameError) = some true)
    (su_NotExact_EverynameError : PySem.W.subIn K (.ref C_NotExact) (.ref C_EverynameError) = some true)
    (su_EmptySpan_EverynameError : PySem.W.subIn K (.ref C_EmptySpan) (.ref C_EverynameError) = some true)
    (su_NoBound_EverynameError : PySem.W.subIn K (.ref C_NoBound) (.ref C_EverynameError) = some true)
    (su_BadValue_BadValue : PySem.W.subIn K (.ref C_BadValue) (.ref C_BadValue) = some true)
    (su_NotExact_NotExact : PySem.W.subIn K (.ref C_NotExact) (.ref C_NotExact) = some true)
    (su_EmptySpan_EmptySpan : PySem.W.subIn K (.ref C_EmptySpan) (.ref C_EmptySpan) = some true)
    (su_NoBound_NoBound : PySem.W.subIn K (.ref C_NoBound) (.ref C_NoBound) = some true)
    (su_BadValue_ValueError : PySem.W.subIn K (.ref C_BadValue) (.type "ValueError") = some true)
    (su_NotExact_BadValue : PySem.W.subIn K (.ref C_NotExact) (.ref C_BadValue) = some false)
    (su_EmptySpan_BadValue : PySem.W.subIn K (.ref C_EmptySpan) (.ref C_BadValue) = some false)
    (su_EmptySpan_NotExact : PySem.W.subIn K (.ref C_EmptySpan) (.ref C_NotExact) = some false)
    (su_NoBound_BadValue : PySem.W.subIn K (.ref C_NoBound) (.ref C_BadValue) = some false)
    (su_NoBound_NotExact : PySem.W.subIn K (.ref C_NoBound) (.ref C_NotExact) = some false)
    (su_NoBound_EmptySpan : PySem.W.subIn K (.ref C_NoBound) (.ref C_EmptySpan) = some false)
    (xL_NotExact : K.lookup C_NotExact = some (excClassObj nm_NotExact q_NotExact C_NotExact NX_NotExact bs_NotExact [.ref C_EverynameError, .type "ValueError", .type "Exception", .type "BaseException", .type "object"] true sn_NotExact sub_NotExact ab_NotExact col_NotExact dd_NotExact m0_NotExact m1_NotExact m2_NotExact m3_NotExact m5_NotExact "ValueError.__new__"))
    (sa_NotExact : PySem.W.findIn K (.ref C_NotExact) "__setattr__" = some (some (.builtin "object.__setattr__")))
    (kC_NotExact : PySem.W.keepIn K (.ref C_NotExact) = true)
    (z_ValueError : PySem.W.nsIn K mainGlobals "ValueError" = some none)
    (a_nxinit : PySem.W.findIn K (.ref C_NotExact) "__init__" = some (some (.ref f_nxinit)))
    (t_nxinit : PySem.W.typeIn K (.ref f_nxinit) = some (.type "function"))
    (l_nxinit : K.lookup f_nxinit = some ⟨oc_nxinit, od_nxinit, .func (PySem.W.fnOf "__init__" "NotExact.__init__" (defArgs s_nxinit) (defBody s_nxinit) (defScope s_nxinit) .none kV_nxinit dc_nxinit pm_nxinit an_nxinit cd_nxinit ct_nxinit), sl_nxinit⟩)
    (c_nxinit : PySem.W.codeIn K cd_nxinit "NotExact.__init__" = true)
    (k_nxinit : PySem.W.keepIn K (.ref f_nxinit) = true)
    (a_pen : PySem.W.nsIn K mainGlobals "_law_pen" = some (some (.ref f_pen)))
    (l_pen : K.lookup f_pen = some ⟨oc_pen, od_pen, .func (PySem.W.fnOf "_law_pen" "_law_pen" (defArgs s_pen) (defBody s_pen) (defScope s_pen) .none kV_pen dc_pen pm_pen an_pen cd_pen ct_pen), sl_pen⟩)
    (c_pen : PySem.W.codeIn K cd_pen "_law_pen" = true)
    (k_pen : PySem.W.keepIn K (.ref f_pen) = true)
    (a_draw : PySem.W.nsIn K mainGlobals "_law_draw" = some (some (.ref f_draw)))
    (l_draw : K.lookup f_draw = some ⟨oc_draw, od_draw, .func (PySem.W.fnOf "_law_draw" "_law_draw" (defArgs s_draw) (defBody s_draw) (defScope s_draw) .none kV_draw dc_draw pm_draw an_draw cd_draw ct_draw), sl_draw⟩)
    (c_draw : PySem.W.codeIn K cd_draw "_law_draw" = true)
    (k_draw : PySem.W.keepIn K (.ref f_draw) = true)
    (a_pick : PySem.W.nsIn K mainGlobals "_law_pick" = some (some (.ref f_pick)))
    (l_pick : K.lookup f_pick = some ⟨oc_pick, od_pick, .func (PySem.W.fnOf "_law_pick" "_law_pick" (defArgs s_pick) (defBody s_pick) (defScope s_pick) .none kV_pick dc_pick pm_pick an_pick cd_pick ct_pick), sl_pick⟩)
    (c_pick : PySem.W.codeIn K cd_pick "_law_pick" = true)
    (k_pick : PySem.W.keepIn K (.ref f_pick) = true)
    (a_lwhole : PySem.W.nsIn K mainGlobals "_law_whole" = some (some (.ref f_lwhole)))
    (l_lwhole : K.lookup f_lwhole = some ⟨oc_lwhole, od_lwhole, .func (PySem.W.fnOf "_law_whole" "_law_whole" (defArgs s_lwhole) (defBody s_lwhole) (defScope s_lwhole) .none kV_lwhole dc_lwhole pm_lwhole an_lwhole cd_lwhole ct_lwhole), sl_lwhole⟩)
    (c_lwhole : PySem.W.codeIn K cd_lwhole "_law_whole" = true)
    (k_lwhole : PySem.W.keepIn K (.ref f_lwhole) = true)
    (a_great : PySem.W.nsIn K mainGlobals "_law_great" = some (some (.ref f_great)))
    (l_great : K.lookup f_great = some ⟨oc_great, od_great, .func (PySem.W.fnOf "_law_great" "_law_great" (defArgs s_great) (defBody s_great) (defScope s_great) .none kV_great dc_great pm_great an_great cd_great ct_great), sl_great⟩)
    (c_great : PySem.W.codeIn K cd_great "_law_great" = true)
    (k_great : PySem.W.keepIn K (.ref f_great) = true)
    (a_integer : PySem.W.nsIn K mainGlobals "_law_integer" = some (some (.ref f_integer)))
    (l_integer : K.lookup f_integer = some ⟨oc_integer, od_integer, .func (PySem.W.fnOf "_law_integer" "_law_integer" (defArgs s_integer) (defBody s_integer) (defScope s_integer) .none kV_integer dc_integer pm_integer an_integer cd_integer ct_integer), sl_integer⟩)
    (c_integer : PySem.W.codeIn K cd_integer "_law_integer" = true)
    (k_integer : PySem.W.keepIn K (.ref f_integer) = true)
    (a_choose : PySem.W.nsIn K mainGlobals "_law_choose" = some (some (.ref f_choose)))
    (l_choose : K.lookup f_choose = some ⟨oc_choose, od_choose, .func (PySem.W.fnOf "_law_choose" "_law_choose" (defArgs s_choose) (defBody s_choose) (defScope s_choose) .none kV_choose dc_choose pm_choose an_choose cd_choose ct_choose), sl_choose⟩)
    (c_choose : PySem.W.codeIn K cd_choose "_law_choose" = true)
    (k_choose : PySem.W.keepIn K (.ref f_choose) = true)
    (a_lat : PySem.W.nsIn K mainGlobals "_law_at" = some (some (.ref f_lat)))
    (l_lat : K.lookup f_lat = some ⟨oc_lat, od_lat, .func (PySem.W.fnOf "_law_at" "_law_at" (defArgs s_lat) (defBody s_lat) (defScope s_lat) .none kV_lat dc_lat pm_lat an_lat cd_lat ct_lat), sl_lat⟩)
    (c_lat : PySem.W.codeIn K cd_lat "_law_at" = true)
    (k_lat : PySem.W.keepIn K (.ref f_lat) = true)
    (a_cut : PySem.W.nsIn K mainGlobals "_law_cut" = some (some (.ref f_cut)))
    (l_cut : K.lookup f_cut = some ⟨oc_cut, od_cut, .func (PySem.W.fnOf "_law_cut" "_law_cut" (defArgs s_cut) (defBody s_cut) (defScope s_cut) .none kV_cut dc_cut pm_cut an_cut cd_cut ct_cut), sl_cut⟩)
    (c_cut : PySem.W.codeIn K cd_cut "_law_cut" = true)
    (k_cut : PySem.W.keepIn K (.ref f_cut) = true)
    (a_lrowof : PySem.W.nsIn K mainGlobals "_law_row_of" = some (some (.ref f_lrowof)))
    (l_lrowof : K.lookup f_lrowof = some ⟨oc_lrowof, od_lrowof, .func (PySem.W.fnOf "_law_row_of" "_law_row_of" (defArgs s_lrowof) (defBody s_lrowof) (defScope s_lrowof) .none kV_lrowof dc_lrowof pm_lrowof an_lrowof cd_lrowof ct_lrowof), sl_lrowof⟩)
    (c_lrowof : PySem.W.codeIn K cd_lrowof "_law_row_of" = true)
    (k_lrowof : PySem.W.keepIn K (.ref f_lrowof) = true)
    (a_lrow : PySem.W.nsIn K mainGlobals "_law_row" = some (some (.ref f_lrow)))
    (l_lrow : K.lookup f_lrow = some ⟨oc_lrow, od_lrow, .func (PySem.W.fnOf "_law_row" "_law_row" (defArgs s_lrow) (defBody s_lrow) (defScope s_lrow) .none kV_lrow dc_lrow pm_lrow an_lrow cd_lrow ct_lrow), sl_lrow⟩)
    (c_lrow : PySem.W.codeIn K cd_lrow "_law_row" = true)
    (k_lrow : PySem.W.keepIn K (.ref f_lrow) = true)
    (a_lplus : PySem.W.nsIn K mainGlobals "_law_plus" = some (some (.ref f_lplus)))
    (l_lplus : K.lookup f_lplus = some ⟨oc_lplus, od_lplus, .func (PySem.W.fnOf "_law_plus" "_law_plus" (defArgs s_lplus) (defBody s_lplus) (defScope s_lplus) .none kV_lplus dc_lplus pm_lplus an_lplus cd_lplus ct_lplus), sl_lplus⟩)
    (c_lplus : PySem.W.codeIn K cd_lplus "_law_plus" = true)
    (k_lplus : PySem.W.keepIn K (.ref f_lplus) = true)
    (a_ltimes : PySem.W.nsIn K mainGlobals "_law_times" = some (some (.ref f_ltimes)))
    (l_ltimes : K.lookup f_ltimes = some ⟨oc_ltimes, od_ltimes, .func (PySem.W.fnOf "_law_times" "_law_times" (defArgs s_ltimes) (defBody s_ltimes) (defScope s_ltimes) .none kV_ltimes dc_ltimes pm_ltimes an_ltimes cd_ltimes ct_ltimes), sl_ltimes⟩)
    (c_ltimes : PySem.W.codeIn K cd_ltimes "_law_times" = true)
    (k_ltimes : PySem.W.keepIn K (.ref f_ltimes) = true)
    (a_sizeis : PySem.W.nsIn K mainGlobals "_law_size_is" = some (some (.ref f_sizeis)))
    (l_sizeis : K.lookup f_sizeis = some ⟨oc_sizeis, od_sizeis, .func (PySem.W.fnOf "_law_size_is" "_law_size_is" (defArgs s_sizeis) (defBody s_sizeis) (defScope s_sizeis) .none kV_sizeis dc_sizeis pm_sizeis an_sizeis cd_sizeis ct_sizeis), sl_sizeis⟩)
    (c_sizeis : PySem.W.codeIn K cd_sizeis "_law_size_is" = true)
    (k_sizeis : PySem.W.keepIn K (.ref f_sizeis) = true)
    (a_is_whole : PySem.W.nsIn K mainGlobals "is_whole" = some (some (.ref f_is_whole)))
    (l_is_whole : K.lookup f_is_whole = some ⟨oc_is_whole, od_is_whole, .func (PySem.W.fnOf "is_whole" "is_whole" (defArgs s_is_whole) (defBody s_is_whole) (defScope s_is_whole) .none kV_is_whole dc_is_whole pm_is_whole an_is_whole cd_is_whole ct_is_whole), sl_is_whole⟩)
    (c_is_whole : PySem.W.codeIn K cd_is_whole "is_whole" = true)
    (k_is_whole : PySem.W.keepIn K (.ref f_is_whole) = true)
    (a_check_whole : PySem.W.nsIn K mainGlobals "check_whole" = some (some (.ref f_check_whole)))
    (l_check_whole : K.lookup f_check_whole = some ⟨oc_check_whole, od_check_whole, .func (PySem.W.fnOf "check_whole" "check_whole" (defArgs s_check_whole) (defBody s_check_whole) (defScope s_check_whole) .none kV_check_whole dc_check_whole pm_check_whole an_check_whole cd_check_whole ct_check_whole), sl_check_whole⟩)
    (c_check_whole : PySem.W.codeIn K cd_check_whole "check_whole" = true)
    (k_check_whole : PySem.W.keepIn K (.ref f_check_whole) = true)
    (a_check_from : PySem.W.nsIn K mainGlobals "check_from" = some (some (.ref f_check_from)))
    (l_check_from : K.lookup f_check_from = some ⟨oc_check_from, od_check_from, .func (PySem.W.fnOf "check_from" "check_from" (defArgs s_check_from) (defBody s_check_from) (defScope s_check_from) .none kV_check_from dc_check_from pm_check_from an_check_from cd_check_from ct_check_from), sl_check_from⟩)
    (c_check_from : PySem.W.codeIn K cd_check_from "check_from" = true)
    (k_check_from : PySem.W.keepIn K (.ref f_check_from) = true)
    (a_check_wholes : PySem.W.nsIn K mainGlobals "check_wholes" = some (some (.ref f_check_wholes)))
    (l_check_wholes : K.lookup f_check_wholes = some ⟨oc_check_wholes, od_check_wholes, .func (PySem.W.fnOf "check_wholes" "check_wholes" (defArgs s_check_wholes) (defBody s_check_wholes) (defScope s_check_wholes) .none kV_check_wholes dc_check_wholes pm_check_wholes an_check_wholes cd_check_wholes ct_check_wholes), sl_check_wholes⟩)
    (c_check_wholes : PySem.W.codeIn K cd_check_wholes "check_wholes" = true)
    (k_check_wholes : PySem.W.keepIn K (.ref f_check_wholes) = true)
    (a_chooses : PySem.W.nsIn K mainGlobals "chooses" = some (some (.ref f_chooses)))
    (l_chooses : K.lookup f_chooses = some ⟨oc_chooses, od_chooses, .func (PySem.W.fnOf "chooses" "chooses" (defArgs s_chooses) (defBody s_chooses) (defScope s_chooses) .none kV_chooses dc_chooses pm_chooses an_chooses cd_chooses ct_chooses), sl_chooses⟩)
    (c_chooses : PySem.W.codeIn K cd_chooses "chooses" = true)
    (k_chooses : PySem.W.keepIn K (.ref f_chooses) = true)
    (a_row_value : PySem.W.nsIn K mainGlobals "row_value" = some (some (.ref f_row_value)))
    (l_row_value : K.lookup f_row_value = some ⟨oc_row_value, od_row_value, .func (PySem.W.fnOf "row_value" "row_value" (defArgs s_row_value) (defBody s_row_value) (defScope s_row_value) .none kV_row_value dc_row_value pm_row_value an_row_value cd_row_value ct_row_value), sl_row_value⟩)
    (c_row_value : PySem.W.codeIn K cd_row_value "row_value" = true)
    (k_row_value : PySem.W.keepIn K (.ref f_row_value) = true)
    (a_row_through : PySem.W.nsIn K mainGlobals "row_through" = some (some (.ref f_row_through)))
    (l_row_through : K.lookup f_row_through = some ⟨oc_row_through, od_row_through, .func (PySem.W.fnOf "row_through" "row_through" (defArgs s_row_through) (defBody s_row_through) (defScope s_row_through) .none kV_row_through dc_row_through pm_row_through an_row_through cd_row_through ct_row_through), sl_row_through⟩)
    (c_row_through : PySem.W.codeIn K cd_row_through "row_through" = true)
    (k_row_through : PySem.W.keepIn K (.ref f_row_through) = true)
    (a_row_ahead : PySem.W.nsIn K mainGlobals "row_ahead" = some (some (.ref f_row_ahead)))
    (l_row_ahead : K.lookup f_row_ahead = some ⟨oc_row_ahead, od_row_ahead, .func (PySem.W.fnOf "row_ahead" "row_ahead" (defArgs s_row_ahead) (defBody s_row_ahead) (defScope s_row_ahead) .none kV_row_ahead dc_row_ahead pm_row_ahead an_row_ahead cd_row_ahead ct_row_ahead), sl_row_ahead⟩)
    (c_row_ahead : PySem.W.codeIn K cd_row_ahead "row_ahead" = true)
    (k_row_ahead : PySem.W.keepIn K (.ref f_row_ahead) = true)
    (a_trimmed : PySem.W.nsIn K mainGlobals "trimmed" = some (some (.ref f_trimmed)))
    (l_trimmed : K.lookup f_trimmed = some ⟨oc_trimmed, od_trimmed, .func (PySem.W.fnOf "trimmed" "trimmed" (defArgs s_trimmed) (defBody s_trimmed) (defScope s_trimmed) .none kV_trimmed dc_trimmed pm_trimmed an_trimmed cd_trimmed ct_trimmed), sl_trimmed⟩)
    (c_trimmed : PySem.W.codeIn K cd_trimmed "trimmed" = true)
    (k_trimmed : PySem.W.keepIn K (.ref f_trimmed) = true)
    (a_row_sum : PySem.W.nsIn K mainGlobals "row_sum" = some (some (.ref f_row_sum)))
    (l_row_sum : K.lookup f_row_sum = some ⟨oc_row_sum, od_row_sum, .func (PySem.W.fnOf "row_sum" "row_sum" (defArgs s_row_sum) (defBody s_row_sum) (defScope s_row_sum) .none kV_row_sum dc_row_sum pm_row_sum an_row_sum cd_row_sum ct_row_sum), sl_row_sum⟩)
    (c_row_sum : PySem.W.codeIn K cd_row_sum "row_sum" = true)
    (k_row_sum : PySem.W.keepIn K (.ref f_row_sum) = true)
    (a_row_times : PySem.W.nsIn K mainGlobals "row_times" = some (some (.ref f_row_times)))
    (l_row_times : K.lookup f_row_times = some ⟨oc_row_times, od_row_times, .func (PySem.W.fnOf "row_times" "row_times" (defArgs s_row_times) (defBody s_row_times) (defScope s_row_times) .none kV_row_times dc_row_times pm_row_times an_row_times cd_row_times ct_row_times), sl_row_times⟩)
    (c_row_times : PySem.W.codeIn K cd_row_times "row_times" = true)
    (k_row_times : PySem.W.keepIn K (.ref f_row_times) = true)
    (a_row_less : PySem.W.nsIn K mainGlobals "row_less" = some (some (.ref f_row_less)))
    (l_row_less : K.lookup f_row_less = some ⟨oc_row_less, od_row_less, .func (PySem.W.fnOf "row_less" "row_less" (defArgs s_row_less) (defBody s_row_less) (defScope s_row_less) .none kV_row_less dc_row_less pm_row_less an_row_less cd_row_less ct_row_less), sl_row_less⟩)
    (c_row_less : PySem.W.codeIn K cd_row_less "row_less" = true)
    (k_row_less : PySem.W.keepIn K (.ref f_row_less) = true)
    (a_row_product : PySem.W.nsIn K mainGlobals "row_product" = some (some (.ref f_row_product)))
    (l_row_product : K.lookup f_row_product = some ⟨oc_row_product, od_row_product, .func (PySem.W.fnOf "row_product" "row_product" (defArgs s_row_product) (defBody s_row_product) (defScope s_row_product) .none kV_row_product dc_row_product pm_row_product an_row_product cd_row_product ct_row_product), sl_row_product⟩)
    (c_row_product : PySem.W.codeIn K cd_row_product "row_product" = true)
    (k_row_product : PySem.W.keepIn K (.ref f_row_product) = true)
    (a_row_of : PySem.W.nsIn K mainGlobals "row_of" = some (some (.ref f_row_of)))
    (l_row_of : K.lookup f_row_of = some ⟨oc_row_of, od_row_of, .func (PySem.W.fnOf "row_of" "row_of" (defArgs s_row_of) (defBody s_row_of) (defScope s_row_of) .none kV_row_of dc_row_of pm_row_of an_row_of cd_row_of ct_row_of), sl_row_of⟩)
    (c_row_of : PySem.W.codeIn K cd_row_of "row_of" = true)
    (k_row_of : PySem.W.keepIn K (.ref f_row_of) = true)
    (a_sinit : PySem.W.findIn K (.ref C_Size) "__init__" = some (some (.ref f_sinit)))
    (i_sinit : PySem.W.isFn K (.ref f_sinit) = true)
    (l_sinit : K.lookup f_sinit = some ⟨oc_sinit, od_sinit, .func (PySem.W.fnOf "__init__" "Size.__init__" (defArgs s_sinit) (defBody s_sinit) (defScope s_sinit) (.ref TI_sinit) kV_sinit dc_sinit pm_sinit an_sinit cd_sinit ct_sinit), sl_sinit⟩)
    (c_sinit : PySem.W.codeIn K cd_sinit "Size.__init__" = true)
    (k_sinit : PySem.W.keepIn K (.ref f_sinit) = true)
    (lTI_sinit : K.lookup TI_sinit = some ⟨ocTI_sinit, odTI_sinit, .seq #[.ref T0_sinit] nTI_sinit, slTI_sinit⟩)
    (lT0_sinit : K.lookup T0_sinit = some ⟨.type "tuple", odT0_sinit, .seq #[] nT0_sinit, slT0_sinit⟩)
    (a_sneg : PySem.W.findIn K (.ref C_Size) "__neg__" = some (some (.ref f_sneg)))
    (i_sneg : PySem.W.isFn K (.ref f_sneg) = true)
    (l_sneg : K.lookup f_sneg = some ⟨oc_sneg, od_sneg, .func (PySem.W.fnOf "__neg__" "Size.__neg__" (defArgs s_sneg) (defBody s_sneg) (defScope s_sneg) .none kV_sneg dc_sneg pm_sneg an_sneg cd_sneg ct_sneg), sl_sneg⟩)
    (c_sneg : PySem.W.codeIn K cd_sneg "Size.__neg__" = true)
    (k_sneg : PySem.W.keepIn K (.ref f_sneg) = true)
    (a_sadd : PySem.W.findIn K (.ref C_Size) "__add__" = some (some (.ref f_sadd)))
    (i_sadd : PySem.W.isFn K (.ref f_sadd) = true)
    (l_sadd : K.lookup f_sadd = some ⟨oc_sadd, od_sadd, .func (PySem.W.fnOf "__add__" "Size.__add__" (defArgs s_sadd) (defBody s_sadd) (defScope s_sadd) .none kV_sadd dc_sadd pm_sadd an_sadd cd_sadd ct_sadd), sl_sadd⟩)
    (c_sadd : PySem.W.codeIn K cd_sadd "Size.__add__" = true)
    (k_sadd : PySem.W.keepIn K (.ref f_sadd) = true)
    (a_ssub : PySem.W.findIn K (.ref C_Size) "__sub__" = some (some (.ref f_ssub)))
    (i_ssub : PySem.W.isFn K (.ref f_ssub) = true)
    (l_ssub : K.lookup f_ssub = some ⟨oc_ssub, od_ssub, .func (PySem.W.fnOf "__sub__" "Size.__sub__" (defArgs s_ssub) (defBody s_ssub) (defScope s_ssub) .none kV_ssub dc_ssub pm_ssub an_ssub cd_ssub ct_ssub), sl_ssub⟩)
    (c_ssub : PySem.W.codeIn K cd_ssub "Size.__sub__" = true)
    (k_ssub : PySem.W.keepIn K (.ref f_ssub) = true)
    (a_smul : PySem.W.findIn K (.ref C_Size) "__mul__" = some (some (.ref f_smul)))
    (i_smul : PySem.W.isFn K (.ref f_smul) = true)
    (l_smul : K.lookup f_smul = some ⟨oc_smul, od_smul, .func (PySem.W.fnOf "__mul__" "Size.__mul__" (defArgs s_smul) (defBody s_smul) (defScope s_smul) .none kV_smul dc_smul pm_smul an_smul cd_smul ct_smul), sl_smul⟩)
    (c_smul : PySem.W.codeIn K cd_smul "Size.__mul__" = true)
    (k_smul : PySem.W.keepIn K (.ref f_smul) = true)
    (a_sradd : PySem.W.findIn K (.ref C_Size) "__radd__" = some (some (.ref f_sradd)))
    (i_sradd : PySem.W.isFn K (.ref f_sradd) = true)
    (l_sradd : K.lookup f_sradd = some ⟨oc_sradd, od_sradd, .func (PySem.W.fnOf "__radd__" "Size.__radd__" (defArgs s_sradd) (defBody s_sradd) (defScope s_sradd) .none kV_sradd dc_sradd pm_sradd an_sradd cd_sradd ct_sradd), sl_sradd⟩)
    (c_sradd : PySem.W.codeIn K cd_sradd "Size.__radd__" = true)
    (k_sradd : PySem.W.keepIn K (.ref f_sradd) = true)
    (a_srsub : PySem.W.findIn K (.ref C_Size) "__rsub__" = some (some (.ref f_srsub)))
    (i_srsub : PySem.W.isFn K (.ref f_srsub) = true)
    (l_srsub : K.lookup f_srsub = some ⟨oc_srsub, od_srsub, .func (PySem.W.fnOf "__rsub__" "Size.__rsub__" (defArgs s_srsub) (defBody s_srsub) (defScope s_srsub) .none kV_srsub dc_srsub pm_srsub an_srsub cd_srsub ct_srsub), sl_srsub⟩)
    (c_srsub : PySem.W.codeIn K cd_srsub "Size.__rsub__" = true)
    (k_srsub : PySem.W.keepIn K (.ref f_srsub) = true)
    (a_srmul : PySem.W.findIn K (.ref C_Size) "__rmul__" = some (some (.ref f_srmul)))
    (i_srmul : PySem.W.isFn K (.ref f_srmul) = true)
    (l_srmul : K.lookup f_srmul = some ⟨oc_srmul, od_srmul, .func (PySem.W.fnOf "__rmul__" "Size.__rmul__" (defArgs s_srmul) (defBody s_srmul) (defScope s_srmul) .none kV_srmul dc_srmul pm_srmul an_srmul cd_srmul ct_srmul), sl_srmul⟩)
    (c_srmul : PySem.W.codeIn K cd_srmul "Size.__rmul__" = true)
    (k_srmul : PySem.W.keepIn K (.ref f_srmul) = true)
    (a_srshift : PySem.W.findIn K (.ref C_Size) "__rshift__" = some (some (.ref f_srshift)))
    (i_srshift : PySem.W.isFn K (.ref f_srshift) = true)
    (l_srshift : K.lookup f_srshift = some ⟨oc_srshift, od_srshift, .func (PySem.W.fnOf "__rshift__" "Size.__rshift__" (defArgs s_srshift) (defBody s_srshift) (defScope s_srshift) .none kV_srshift dc_srshift pm_srshift an_srshift cd_srshift ct_srshift), sl_srshift⟩)
    (c_srshift : PySem.W.codeIn K cd_srshift "Size.__rshift__" = true)
    (k_srshift : PySem.W.keepIn K (.ref f_srshift) = true)
    (a_slshift : PySem.W.findIn K (.ref C_Size) "__lshift__" = some (some (.ref f_slshift)))
    (i_slshift : PySem.W.isFn K (.ref f_slshift) = true)
    (l_slshift : K.lookup f_slshift = some ⟨oc_slshift, od_slshift, .func (PySem.W.fnOf "__lshift__" "Size.__lshift__" (defArgs s_slshift) (defBody s_slshift) (defScope s_slshift) .none kV_slshift dc_slshift pm_slshift an_slshift cd_slshift ct_slshift), sl_slshift⟩)
    (c_slshift : PySem.W.codeIn K cd_slshift "Size.__lshift__" = true)
    (k_slshift : PySem.W.keepIn K (.ref f_slshift) = true)
    (a_spow : PySem.W.findIn K (.ref C_Size) "__pow__" = some (some (.ref f_spow)))
    (i_spow : PySem.W.isFn K (.ref f_spow) = true)
    (l_spow : K.lookup f_spow = some ⟨oc_spow, od_spow, .func (PySem.W.fnOf "__pow__" "Size.__pow__" (defArgs s_spow) (defBody s_spow) (defScope s_spow) .none kV_spow dc_spow pm_spow an_spow cd_spow ct_spow), sl_spow⟩)
    (c_spow : PySem.W.codeIn K cd_spow "Size.__pow__" = true)
    (k_spow : PySem.W.keepIn K (.ref f_spow) = true)
    (a_seq_ : PySem.W.findIn K (.ref C_Size) "__eq__" = some (some (.ref f_seq_)))
    (i_seq_ : PySem.W.isFn K (.ref f_seq_) = true)
    (l_seq_ : K.lookup f_seq_ = some ⟨oc_seq_, od_seq_, .func (PySem.W.fnOf "__eq__" "Size.__eq__" (defArgs s_seq_) (defBody s_seq_) (defScope s_seq_) .none kV_seq_ dc_seq_ pm_seq_ an_seq_ cd_seq_ ct_seq_), sl_seq_⟩)
    (c_seq_ : PySem.W.codeIn K cd_seq_ "Size.__eq__" = true)
    (k_seq_ : PySem.W.keepIn K (.ref f_seq_) = true)
    (a_sfloordiv : PySem.W.findIn K (.ref C_Size) "__floordiv__" = some (some (.ref f_sfloordiv)))
    (i_sfloordiv : PySem.W.isFn K (.ref f_sfloordiv) = true)
    (l_sfloordiv : K.lookup f_sfloordiv = some ⟨oc_sfloordiv, od_sfloordiv, .func (PySem.W.fnOf "__floordiv__" "Size.__floordiv__" (defArgs s_sfloordiv) (defBody s_sfloordiv) (defScope s_sfloordiv) .none kV_sfloordiv dc_sfloordiv pm_sfloordiv an_sfloordiv cd_sfloordiv ct_sfloordiv), sl_sfloordiv⟩)
    (c_sfloordiv : PySem.W.codeIn K cd_sfloordiv "Size.__floordiv__" = true)
    (k_sfloordiv : PySem.W.keepIn K (.ref f_sfloordiv) = true)
    (a_lerror : PySem.W.nsIn K mainGlobals "_law_error" = some (some (.ref f_lerror)))
    (l_lerror : K.lookup f_lerror = some ⟨oc_lerror, od_lerror, .func (PySem.W.fnOf "_law_error" "_law_error" (defArgs s_lerror) (defBody s_lerror) (defScope s_lerror) .none kV_lerror dc_lerror pm_lerror an_lerror cd_lerror ct_lerror), sl_lerror⟩)
    (c_lerror : PySem.W.codeIn K cd_lerror "_law_error" = true)
    (k_lerror : PySem.W.keepIn K (.ref f_lerror) = true)
    (a_ldivided : PySem.W.nsIn K mainGlobals "_law_divided" = some (some (.ref f_ldivided)))
    (l_ldivided : K.lookup f_ldivided = some ⟨oc_ldivided, od_ldivided, .func (PySem.W.fnOf "_law_divided" "_law_divided" (defArgs s_ldivided) (defBody s_ldivided) (defScope s_ldivided) .none kV_ldivided dc_ldivided pm_ldivided an_ldivided (.ref cD) ct_ldivided), sl_ldivided⟩)
    (c_ldivided : PySem.W.codeIn K (.ref cD) "_law_divided" = true)
    (k_ldivided : PySem.W.keepIn K (.ref f_ldivided) = true)
    (a_law : PySem.W.nsIn K mainGlobals "law" = some (some (.ref f_law)))
    (l_law : K.lookup f_law = some ⟨oc_law, od_law, .func (PySem.W.fnOf "law" "law" (defArgs s_law) (defBody s_law) (defScope s_law) .none kV_law dc_law pm_law an_law cd_law ct_law), sl_law⟩)
    (c_law : PySem.W.codeIn K cd_law "law" = true)
    (k_law : PySem.W.keepIn K (.ref f_law) = true)
    (z_list : PySem.W.nsIn K mainGlobals "list" = some none)
    (z_len : PySem.W.nsIn K mainGlobals "len" = some none)
    (z_int : PySem.W.nsIn K mainGlobals "int" = some none)
    (z_abs : PySem.W.nsIn K mainGlobals "abs" = some none)
    (z_range : PySem.W.nsIn K mainGlobals "range" = some none)
    (z_tuple : PySem.W.nsIn K mainGlobals "tuple" = some none)
    (z_isinstance : PySem.W.nsIn K mainGlobals "isinstance" = some none)
    (z_bool : PySem.W.nsIn K mainGlobals "bool" = some none)
    (z_all : PySem.W.nsIn K mainGlobals "all" = some none)
    (z_sum : PySem.W.nsIn K mainGlobals "sum" = some none)
    (z_zip : PySem.W.nsIn K mainGlobals "zip" = some none)
    (z_min : PySem.W.nsIn K mainGlobals "min" = some none)
    (z_sorted : PySem.W.nsIn K mainGlobals "sorted" = some none)
    (z_any : PySem.W.nsIn K mainGlobals "any" = some none)
    (z_set : PySem.W.nsIn K mainGlobals "set" = some none)
    (z_max : PySem.W.nsIn K mainGlobals "max" = some none)
    (z_str : PySem.W.nsIn K mainGlobals "str" = some none)
    (z_enumerate : PySem.W.nsIn K mainGlobals "enumerate" = some none)
    (z_reversed : PySem.W.nsIn K mainGlobals "reversed" = some none)
    (z_dict : PySem.W.nsIn K mainGlobals "dict" = some none)
    (lcD : K.lookup cD = some ⟨ocD, odD, .fields vsD, slD⟩)
    (v11 : vsD[11]? = some (.ref PD))
    (nPD : K.lookup PD = none)
    : ∃ (fd : FuncData) (cD PD fD : Addr), mg "_law_divided" = some (.ref fD) ∧ (∃ (o : Obj) (fd2 : FuncData), K.lookup fD = some o ∧ o.data = .func fd2 ∧ fd2.code = .ref cD) ∧ (∃ (e : Value) (dd : Option Addr) (vs : Array Value) (sl : Array (Option Value)), K.lookup cD = some ⟨e, dd, .fields vs, sl⟩ ∧ vs[11]? = some (.ref PD)) ∧ K.lookup PD = none ∧ (∀ (s : Shared) (v : Value), BindsTo s fd ⟨[v], []⟩ [("_law_script", v)]) ∧ ∀ base : Heap, K.In base → base.Ns mainGlobals mg → LamX.TabB base mg cD PD → FnOk l.prog w K mg base CX0 9 fa fd ["_law_script"] (spLawH K [(PD, qDiv)]) := by
  have e := hfa.symm.trans (PySem.W.mg_of X G a_law)
  cases e
  have T : Blt mg := ⟨PySem.W.mg_none_of X G z_list, PySem.W.mg_none_of X G z_len, PySem.W.mg_none_of X G z_int, PySem.W.mg_none_of X G z_abs, PySem.W.mg_none_of X G z_range, PySem.W.mg_none_of X G z_tuple, PySem.W.mg_none_of X G z_isinstance, PySem.W.mg_none_of X G z_bool, PySem.W.mg_none_of X G z_all, PySem.W.mg_none_of X G z_sum, PySem.W.mg_none_of X G z_zip, PySem.W.mg_none_of X G z_min, PySem.W.mg_none_of X G z_sorted, PySem.W.mg_none_of X G z_any, PySem.W.mg_none_of X G z_set, PySem.W.mg_none_of X G z_max, PySem.W.mg_none_of X G z_str, PySem.W.mg_none_of X G z_enumerate, PySem.W.mg_none_of X G z_reversed, PySem.W.mg_none_of X G z_dict⟩
  have g_Size := PySem.W.mg_of X G aC_Size
  have cl_Size : Cls K C_Size := ⟨pg_Size, hd_Size, po_Size, sa_Size⟩
  have o_Size : OwnC K C_Size := ⟨cl_Size, ha_Size, hn_Size, htk_Size, hm_Size, by unfold PySem.W.kitOne; exact if_pos (by simp)⟩
  have no_Size : NoC K C_Size := by
    obtain ⟨cd, rest, hcd, _⟩ := EO.first_own sf_Size
    have one : ∀ T : String, PySem.W.subIn K (.type T) (.ref C_Size) = some false → PySem.W.kitOne K (.type T) (.ref C_Size) = some false := fun T hs => by
      unfold PySem.W.kitOne PySem.W.kitCls
      dsimp only
      rw [hcd, ty_Size, hs]
      have e : (Value.type T == Value.ref C_Size) = false := Bool.eq_false_iff.mpr fun q => nomatch beq_iff_eq.mp q
      rw [e, if_neg Bool.false_ne_true]
      simp
    exact ⟨one "int" si_Size, one "tuple" st_Size⟩
  have mx_Size_add : EO.Mix K C_Size "int" "add" := ⟨⟨_, ma_Size_add⟩, ⟨_, mb_Size_add⟩, ⟨_, a_sradd, .inr ⟨_, rfl⟩⟩, si_Size, sf_Size⟩
  have mx_Size_sub : EO.Mix K C_Size "int" "sub" := ⟨⟨_, ma_Size_sub⟩, ⟨_, mb_Size_sub⟩, ⟨_, a_srsub, .inr ⟨_, rfl⟩⟩, si_Size, sf_Size⟩
  have mx_Size_mul : EO.Mix K C_Size "int" "mul" := ⟨⟨_, ma_Size_mul⟩, ⟨_, mb_Size_mul⟩, ⟨_, a_srmul, .inr ⟨_, rfl⟩⟩, si_Size, sf_Size⟩
  have mx_Size_rshift : EO.Mix K C_Size "int" "rshift" := ⟨⟨_, ma_Size_rshift⟩, ⟨_, mb_Size_rshift⟩, ⟨none, mc_Size_rshift, .inl rfl⟩, si_Size, sf_Size⟩
  have mx_Size_lshift : EO.Mix K C_Size "int" "lshift" := ⟨⟨_, ma_Size_lshift⟩, ⟨_, mb_Size_lshift⟩, ⟨none, mc_Size_lshift, .inl rfl⟩, si_Size, sf_Size⟩
  have mx_Size_pow : EO.Mix K C_Size "int" "pow" := ⟨⟨_, ma_Size_pow⟩, ⟨_, mb_Size_pow⟩, ⟨none, mc_Size_pow, .inl rfl⟩, si_Size, sf_Size⟩
  have mx_Size_floordiv : EO.Mix K C_Size "int" "floordiv" := ⟨⟨_, ma_Size_floordiv⟩, ⟨_, mb_Size_floordiv⟩, ⟨none, mc_Size_floordiv, .inl rfl⟩, si_Size, sf_Size⟩
  have ne_Size : EO.NeObj K C_Size := ⟨na_Size, nb_Size⟩
  have g_EverynameError := PySem.W.mg_of X G aC_EverynameError
  have g_BadValue := PySem.W.mg_of X G aC_BadValue
  have e_BadValue : ExcC K C_BadValue := ⟨ga_BadValue, gg_BadValue, xC_BadValue, hd_BadValue, ha_BadValue, hn_E, ht_E, hm_BadValue⟩
  have x_BadValue : XfC K C_BadValue := ⟨ga_BadValue, gg_BadValue, xC_BadValue, hd_BadValue⟩
  have g_NotExact := PySem.W.mg_of X G aC_NotExact
  have e_NotExact : ExcC K C_NotExact := ⟨ga_NotExact, gg_NotExact, xC_NotExact, hd_NotExact, ha_NotExact, hn_E, ht_E, hm_NotExact⟩
  have x_NotExact : XfC K C_NotExact := ⟨ga_NotExact, gg_NotExact, xC_NotExact, hd_NotExact⟩
  have g_EmptySpan := PySem.W.mg_of X G aC_EmptySpan
  have e_EmptySpan : ExcC K C_EmptySpan := ⟨ga_EmptySpan, gg_EmptySpan, xC_EmptySpan, hd_EmptySpan, ha_EmptySpan, hn_E, ht_E, hm_EmptySpan⟩
  have x_EmptySpan : XfC K C_EmptySpan := ⟨ga_EmptySpan, gg_EmptySpan, xC_EmptySpan, hd_EmptySpan⟩
  have g_NoBound := PySem.W.mg_of X G aC_NoBound
  have e_NoBound : ExcC K C_NoBound := ⟨ga_NoBound, gg_NoBound, xC_NoBound, hd_NoBound, ha_NoBound, hn_E, ht_E, hm_NoBound⟩
  have x_NoBound : XfC K C_NoBound := ⟨ga_NoBound, gg_NoBound, xC_NoBound, hd_NoBound⟩
  have ox_NotExact : OexC K C_NotExact := ⟨⟨_, _, _, _, _, _, _, _, _, _, _, _, _, _, _, xL_NotExact, (show PySem.HandSPX.refsVE [.type "ValueError", .type "Exception", .type "BaseException", .type "object"] = true by decide +kernel)⟩, sa_NotExact, xC_NotExact, ty_NotExact, kC_NotExact⟩
  have W : ErrW K mg C_EverynameError C_BadValue C_NotExact C_EmptySpan C_NoBound := {
    gV := g_EverynameError, gB := g_BadValue, gN := g_NotExact, gE := g_EmptySpan, gO := g_NoBound, z := PySem.W.mg_none_of X G z_ValueError, z2 := T.isinstance_, xB := x_BadValue, xN := x_NotExact, nB := nF_BadValue_shown, nN := nF_NotExact_by, eB := e_BadValue, eN := e_NotExact, eE := e_EmptySpan, eO := e_NoBound,
    bV := kit_of xC_EverynameError ty_EverynameError su_BadValue_BadValue su_BadValue_EverynameError, bW := kit_T (by decide +kernel) su_BadValue_ValueError, nV := kit_of xC_EverynameError ty_EverynameError su_NotExact_NotExact su_NotExact_EverynameError, eV := kit_of xC_EverynameError ty_EverynameError su_EmptySpan_EmptySpan su_EmptySpan_EverynameError, oV := kit_of xC_EverynameError ty_EverynameError su_NoBound_NoBound su_NoBound_EverynameError,
    mBB := exm_of xC_BadValue ty_BadValue su_BadValue_BadValue, mNB := exm_of xC_BadValue ty_BadValue su_NotExact_BadValue, mNN := exm_of xC_NotExact ty_NotExact su_NotExact_NotExact, mEB := exm_of xC_BadValue ty_BadValue su_EmptySpan_BadValue, mEN := exm_of xC_NotExact ty_NotExact su_EmptySpan_NotExact, mEE := exm_of xC_EmptySpan ty_EmptySpan su_EmptySpan_EmptySpan, mOB := exm_of xC_BadValue ty_BadValue su_NoBound_BadValue, mON := exm_of xC_NotExact ty_NotExact su_NoBound_NotExact, mOE := exm_of xC_EmptySpan ty_EmptySpan su_NoBound_EmptySpan, mOO := exm_of xC_NoBound ty_NoBound su_NoBound_NoBound }
  have F_nxinit := fun_mk (st := s_nxinit) l_nxinit c_nxinit k_nxinit
  have b_nxinit := F_nxinit.binds (ps := ["self", "by"]) fun _ _ _ _ _ _ us hl => match us, hl with | [_, _], _ => rfl
  have F_pen := fun_mk (st := s_pen) l_pen c_pen k_pen
  have b_pen := F_pen.binds (ps := ["_law_script"]) fun _ _ _ _ _ _ us hl => match us, hl with | [_], _ => rfl
  have F_draw := fun_mk (st := s_draw) l_draw c_draw k_draw
  have b_draw := F_draw.binds (ps := ["_law_pen_here", "_law_many"]) fun _ _ _ _ _ _ us hl => match us, hl with | [_, _], _ => rfl
  have F_pick := fun_mk (st := s_pick) l_pick c_pick k_pick
  have b_pick := F_pick.binds (ps := ["_law_pen_here", "_law_options"]) fun _ _ _ _ _ _ us hl => match us, hl with | [_, _], _ => rfl
  have F_lwhole := fun_mk (st := s_lwhole) l_lwhole c_lwhole k_lwhole
  have b_lwhole := F_lwhole.binds (ps := ["_law_value"]) fun _ _ _ _ _ _ us hl => match us, hl with | [_], _ => rfl
  have F_great := fun_mk (st := s_great) l_great c_great k_great
  have b_great := F_great.binds (ps := ["_law_pen_here", "_law_many"]) fun _ _ _ _ _ _ us hl => match us, hl with | [_, _], _ => rfl
  have F_integer := fun_mk (st := s_integer) l_integer c_integer k_integer
  have b_integer := F_integer.binds (ps := ["_law_pen_here"]) fun _ _ _ _ _ _ us hl => match us, hl with | [_], _ => rfl
  have F_choose := fun_mk (st := s_choose) l_choose c_choose k_choose
  have b_choose := F_choose.binds (ps := ["_law_n", "_law_k"]) fun _ _ _ _ _ _ us hl => match us, hl with | [_, _], _ => rfl
  have F_lat := fun_mk (st := s_lat) l_lat c_lat k_lat
  have b_lat := F_lat.binds (ps := ["_law_row_here", "_law_n"]) fun _ _ _ _ _ _ us hl => match us, hl with | [_, _], _ => rfl
  have F_cut := fun_mk (st := s_cut) l_cut c_cut k_cut
  have b_cut := F_cut.binds (ps := ["_law_row_here"]) fun _ _ _ _ _ _ us hl => match us, hl with | [_], _ => rfl
  have F_lrowof := fun_mk (st := s_lrowof) l_lrowof c_lrowof k_lrowof
  have b_lrowof := F_lrowof.binds (ps := ["_law_amounts"]) fun _ _ _ _ _ _ us hl => match us, hl with | [_], _ => rfl
  have F_lrow := fun_mk (st := s_lrow) l_lrow c_lrow k_lrow
  have b_lrow := F_lrow.binds (ps := ["_law_pen_here", "_law_most"]) fun _ _ _ _ _ _ us hl => match us, hl with | [_, _], _ => rfl
  have F_lplus := fun_mk (st := s_lplus) l_lplus c_lplus k_lplus
  have b_lplus := F_lplus.binds (ps := ["_law_one", "_law_two"]) fun _ _ _ _ _ _ us hl => match us, hl with | [_, _], _ => rfl
  have F_ltimes := fun_mk (st := s_ltimes) l_ltimes c_ltimes k_ltimes
  have b_ltimes := F_ltimes.binds (ps := ["_law_one", "_law_two"]) fun _ _ _ _ _ _ us hl => match us, hl with | [_, _], _ => rfl
  have F_sizeis := fun_mk (st := s_sizeis) l_sizeis c_sizeis k_sizeis
  have b_sizeis := F_sizeis.binds (ps := ["_law_size", "_law_row_here"]) fun _ _ _ _ _ _ us hl => match us, hl with | [_, _], _ => rfl
  have F_is_whole := fun_mk (st := s_is_whole) l_is_whole c_is_whole k_is_whole
  have b_is_whole := F_is_whole.binds (ps := ["value"]) fun _ _ _ _ _ _ us hl => match us, hl with | [_], _ => rfl
  have F_check_whole := fun_mk (st := s_check_whole) l_check_whole c_check_whole k_check_whole
  have b_check_whole := F_check_whole.binds (ps := ["value"]) fun _ _ _ _ _ _ us hl => match us, hl with | [_], _ => rfl
  have F_check_from := fun_mk (st := s_check_from) l_check_from c_check_from k_check_from
  have b_check_from := F_check_from.binds (ps := ["value", "bound"]) fun _ _ _ _ _ _ us hl => match us, hl with | [_, _], _ => rfl
  have F_check_wholes := fun_mk (st := s_check_wholes) l_check_wholes c_check_wholes k_check_wholes
  have b_check_wholes := F_check_wholes.binds (ps := ["values"]) fun _ _ _ _ _ _ us hl => match us, hl with | [_], _ => rfl
  have F_chooses := fun_mk (st := s_chooses) l_chooses c_chooses k_chooses
  have b_chooses := F_chooses.binds (ps := ["n", "many"]) fun _ _ _ _ _ _ us hl => match us, hl with | [_, _], _ => rfl
  have F_row_value := fun_mk (st := s_row_value) l_row_value c_row_value k_row_value
  have b_row_value := F_row_value.binds (ps := ["row", "n"]) fun _ _ _ _ _ _ us hl => match us, hl with | [_, _], _ => rfl
  have F_row_through := fun_mk (st := s_row_through) l_row_through c_row_through k_row_through
  have b_row_through := F_row_through.binds (ps := ["values"]) fun _ _ _ _ _ _ us hl => match us, hl with | [_], _ => rfl
  have F_row_ahead := fun_mk (st := s_row_ahead) l_row_ahead c_row_ahead k_row_ahead
  have b_row_ahead := F_row_ahead.binds (ps := ["row", "k"]) fun _ _ _ _ _ _ us hl => match us, hl with | [_, _], _ => rfl
  have F_trimmed := fun_mk (st := s_trimmed) l_trimmed c_trimmed k_trimmed
  have b_trimmed := F_trimmed.binds (ps := ["row"]) fun _ _ _ _ _ _ us hl => match us, hl with | [_], _ => rfl
  have F_row_sum := fun_mk (st := s_row_sum) l_row_sum c_row_sum k_row_sum
  have b_row_sum := F_row_sum.binds (ps := ["row", "other"]) fun _ _ _ _ _ _ us hl => match us, hl with | [_, _], _ => rfl
  have F_row_times := fun_mk (st := s_row_times) l_row_times c_row_times k_row_times
  have b_row_times := F_row_times.binds (ps := ["row", "factor"]) fun _ _ _ _ _ _ us hl => match us, hl with | [_, _], _ => rfl
  have F_row_less := fun_mk (st := s_row_less) l_row_less c_row_less k_row_less
  have b_row_less := F_row_less.binds (ps := ["row", "other"]) fun _ _ _ _ _ _ us hl => match us, hl with | [_, _], _ => rfl
  have F_row_product := fun_mk (st := s_row_product) l_row_product c_row_product k_row_product
  have b_row_product := F_row_product.binds (ps := ["row", "other"]) fun _ _ _ _ _ _ us hl => match us, hl with | [_, _], _ => rfl
  have F_row_of := fun_mk (st := s_row_of) l_row_of c_row_of k_row_of
  have b_row_of := F_row_of.binds (ps := ["value"]) fun _ _ _ _ _ _ us hl => match us, hl with | [_], _ => rfl
  have F_sinit : FunD K "__init__" "Size.__init__" (defArgs s_sinit) (defBody s_sinit) (defScope s_sinit) [.ref T0_sinit] [] f_sinit _ := ⟨⟨_, _, _, _, _, _, _, _, _, _, rfl, l_sinit, c_sinit, .inr ⟨(fun z => nomatch z), TI_sinit, _, [.ref T0_sinit], nTI_sinit, rfl, lTI_sinit, rfl, .cons rfl .nil⟩, .inl rfl⟩, k_sinit⟩
  obtain ⟨ds2_sinit, v2_sinit, b2_sinit⟩ := F_sinit.binds1 (ps := ["self", "row"]) 2 1 (fun z => nomatch z) rfl fun T kV doc pm an cdv ct us its hu hi => match us, its, hu, hi with | [_, _], [_], _, _ => ⟨_, rfl, rfl⟩
  obtain ⟨ds1_sinit, v1_sinit, b1_sinit⟩ := F_sinit.binds1 (ps := ["self", "row"]) 1 0 (fun z => nomatch z) rfl fun T kV doc pm an cdv ct us its hu hi => match us, its, hu, hi with | [_], [_], _, _ => ⟨_, rfl, rfl⟩
  have F_sneg := fun_mk (st := s_sneg) l_sneg c_sneg k_sneg
  have b_sneg := F_sneg.binds (ps := ["self"]) fun _ _ _ _ _ _ us hl => match us, hl with | [_], _ => rfl
  have F_sadd := fun_mk (st := s_sadd) l_sadd c_sadd k_sadd
  have b_sadd := F_sadd.binds (ps := ["self", "other"]) fun _ _ _ _ _ _ us hl => match us, hl with | [_, _], _ => rfl
  have F_ssub := fun_mk (st := s_ssub) l_ssub c_ssub k_ssub
  have b_ssub := F_ssub.binds (ps := ["self", "other"]) fun _ _ _ _ _ _ us hl => match us, hl with | [_, _], _ => rfl
  have F_smul := fun_mk (st := s_smul) l_smul c_smul k_smul
  have b_smul := F_smul.binds (ps := ["self", "other"]) fun _ _ _ _ _ _ us hl => match us, hl with | [_, _], _ => rfl
  have F_sradd := fun_mk (st := s_sradd) l_sradd c_sradd k_sradd
  have b_sradd := F_sradd.binds (ps := ["self", "other"]) fun _ _ _ _ _ _ us hl => match us, hl with | [_, _], _ => rfl
  have F_srsub := fun_mk (st := s_srsub) l_srsub c_srsub k_srsub
  have b_srsub := F_srsub.binds (ps := ["self", "other"]) fun _ _ _ _ _ _ us hl => match us, hl with | [_, _], _ => rfl
  have F_srmul := fun_mk (st := s_srmul) l_srmul c_srmul k_srmul
  have b_srmul := F_srmul.binds (ps := ["self", "other"]) fun _ _ _ _ _ _ us hl => match us, hl with | [_, _], _ => rfl
  have F_srshift := fun_mk (st := s_srshift) l_srshift c_srshift k_srshift
  have b_srshift := F_srshift.binds (ps := ["self", "other"]) fun _ _ _ _ _ _ us hl => match us, hl with | [_, _], _ => rfl
  have F_slshift := fun_mk (st := s_slshift) l_slshift c_slshift k_slshift
  have b_slshift := F_slshift.binds (ps := ["self", "other"]) fun _ _ _ _ _ _ us hl => match us, hl with | [_, _], _ => rfl
  have F_spow := fun_mk (st := s_spow) l_spow c_spow k_spow
  have b_spow := F_spow.binds (ps := ["self", "other"]) fun _ _ _ _ _ _ us hl => match us, hl with | [_, _], _ => rfl
  have F_seq_ := fun_mk (st := s_seq_) l_seq_ c_seq_ k_seq_
  have b_seq_ := F_seq_.binds (ps := ["self", "other"]) fun _ _ _ _ _ _ us hl => match us, hl with | [_, _], _ => rfl
  have F_sfloordiv := fun_mk (st := s_sfloordiv) l_sfloordiv c_sfloordiv k_sfloordiv
  have b_sfloordiv := F_sfloordiv.binds (ps := ["self", "other"]) fun _ _ _ _ _ _ us hl => match us, hl with | [_, _], _ => rfl
  have F_lerror := fun_mk (st := s_lerror) l_lerror c_lerror k_lerror
  have b_lerror := F_lerror.binds (ps := ["_law_ask"]) fun _ _ _ _ _ _ us hl => match us, hl with | [_], _ => rfl
  have LE : LErrH K mg C_EverynameError C_BadValue C_NotExact C_EmptySpan C_NoBound := ⟨⟨_, _, PySem.W.mg_of X G a_lerror, F_lerror⟩, W⟩
  have F_ldivided := fun_mk (st := s_ldivided) l_ldivided c_ldivided k_ldivided
  have b_ldivided := F_ldivided.binds (ps := ["_law_pen_here", "_law_size", "_law_row_here"]) fun _ _ _ _ _ _ us hl => match us, hl with | [_, _, _], _ => rfl
  have FC_ldivided : FunC K "_law_divided" "_law_divided" s_ldivided f_ldivided _ cD := ⟨⟨_, _, _, _, _, _, _, _, rfl, l_ldivided, c_ldivided⟩, k_ldivided⟩
  have F_law := fun_mk (st := s_law) l_law c_law k_law
  have b_law := F_law.binds (ps := ["_law_script"]) fun _ _ _ _ _ _ us hl => match us, hl with | [_], _ => rfl
  refine ⟨PySem.W.fnOf "law" "law" (defArgs s_law) (defBody s_law) (defScope s_law) .none kV_law dc_law pm_law an_law cd_law ct_law, cD, PD, f_ldivided, PySem.W.mg_of X G a_ldivided, ⟨_, _, l_ldivided, rfl, rfl⟩, ⟨_, _, _, _, lcD, v11⟩, nPD, fun s v => .of_eq rfl, fun base _ _ TB => ?_⟩
  have E_NotExact : ErrH l.prog w K mg base 1 "NotExact" C_NotExact "by" := ⟨⟨f_nxinit, _, ["self", "by"], a_nxinit, t_nxinit, ok_nxinit F_nxinit, b_nxinit⟩, ox_NotExact, nF_NotExact_by, g_NotExact⟩
  have H_pen : Has l.prog w K mg base 1 "_law_pen" ["_law_script"] (spPen K) := has_of X G F_pen a_pen (ok_pen F_pen T) b_pen
  have H_draw : Has l.prog w K mg base 1 "_law_draw" ["_law_pen_here", "_law_many"] spDraw := has_of X G F_draw a_draw (ok_draw F_draw T) b_draw
  have H_pick : Has l.prog w K mg base 2 "_law_pick" ["_law_pen_here", "_law_options"] (spPick K) := has_of X G F_pick a_pick (ok_pick F_pick T H_draw) b_pick
  have H_lwhole : Has l.prog w K mg base 1 "_law_whole" ["_law_value"] spWhole := has_of X G F_lwhole a_lwhole (ok_lwhole F_lwhole T) b_lwhole
  have H_great : Has l.prog w K mg base 2 "_law_great" ["_law_pen_here", "_law_many"] spGreat := has_of X G F_great a_great (ok_great F_great T H_draw) b_great
  have H_integer : Has l.prog w K mg base 3 "_law_integer" ["_law_pen_here"] spInteger := has_of X G F_integer a_integer (ok_integer F_integer T H_draw H_great) b_integer
  have H_choose : Has l.prog w K mg base 1 "_law_choose" ["_law_n", "_law_k"] spChoose := has_of X G F_choose a_choose (ok_choose F_choose T) b_choose
  have H_lat : Has l.prog w K mg base 2 "_law_at" ["_law_row_here", "_law_n"] (spAt K) := has_of X G F_lat a_lat (ok_lat F_lat T H_choose) b_lat
  have H_cut : Has l.prog w K mg base 1 "_law_cut" ["_law_row_here"] (spCut K) := has_of X G F_cut a_cut (ok_cut F_cut T) b_cut
  have H_lrowof : Has l.prog w K mg base 2 "_law_row_of" ["_law_amounts"] (spRowOf K) := has_of X G F_lrowof a_lrowof (ok_lrowof F_lrowof T H_cut) b_lrowof
  have H_lrow : Has l.prog w K mg base 4 "_law_row" ["_law_pen_here", "_law_most"] spRow := has_of X G F_lrow a_lrow (ok_lrow F_lrow T H_draw H_integer) b_lrow
  have H_lplus : Has l.prog w K mg base 2 "_law_plus" ["_law_one", "_law_two"] (spLPlus K) := has_of X G F_lplus a_lplus (ok_lplus F_lplus T H_cut) b_lplus
  have H_ltimes : Has l.prog w K mg base 3 "_law_times" ["_law_one", "_law_two"] (spLTimes K) := has_of X G F_ltimes a_ltimes (ok_ltimes F_ltimes T H_lrowof H_lat) b_ltimes
  have H_sizeis : Has l.prog w K mg base 2 "_law_size_is" ["_law_size", "_law_row_here"] (spSizeIs K C_Size) := has_of X G F_sizeis a_sizeis (ok_sizeis F_sizeis T cl_Size nR_Size_row H_lwhole) b_sizeis
  have H_is_whole : Has l.prog w K mg base 1 "is_whole" ["value"] spIsWhole := has_of X G F_is_whole a_is_whole (ok_is_whole F_is_whole T) b_is_whole
  have H_check_whole : Has l.prog w K mg base 2 "check_whole" ["value"] spCheckWhole := has_of X G F_check_whole a_check_whole (ok_check_whole F_check_whole T H_is_whole) b_check_whole
  have H_check_from : Has l.prog w K mg base 2 "check_from" ["value", "bound"] spCheckFrom := has_of X G F_check_from a_check_from (ok_check_from F_check_from T H_is_whole) b_check_from
  have H_check_wholes : Has l.prog w K mg base 2 "check_wholes" ["values"] (spCheckWholes K) := has_of X G F_check_wholes a_check_wholes (ok_check_wholes F_check_wholes T H_is_whole) b_check_wholes
  have H_chooses : Has l.prog w K mg base 1 "chooses" ["n", "many"] spChs := has_of X G F_chooses a_chooses (ok_chooses F_chooses T) b_chooses
  have H_row_value : Has l.prog w K mg base 2 "row_value" ["row", "n"] (spRowV K) := has_of X G F_row_value a_row_value (ok_row_value F_row_value T H_chooses) b_row_value
  have H_row_through : Has l.prog w K mg base 1 "row_through" ["values"] (spRowThr K) := has_of X G F_row_through a_row_through (ok_row_through F_row_through T) b_row_through
  have H_row_ahead : Has l.prog w K mg base 2 "row_ahead" ["row", "k"] (spRowAh K) := has_of X G F_row_ahead a_row_ahead (ok_row_ahead F_row_ahead T H_chooses) b_row_ahead
  have H_trimmed : Has l.prog w K mg base 1 "trimmed" ["row"] (spTrim K) := has_of X G F_trimmed a_trimmed (ok_trimmed F_trimmed T) b_trimmed
  have H_row_sum1 : Has l.prog w K mg base 1 "row_sum" ["row", "other"] (spRowSum1 K) := has_of X G F_row_sum a_row_sum (ok_row_sum1 F_row_sum T) b_row_sum
  have H_row_sum : Has l.prog w K mg base 2 "row_sum" ["row", "other"] (spRowSum K) := has_of X G F_row_sum a_row_sum (ok_row_sum F_row_sum T H_row_sum1) b_row_sum
  have H_row_times : Has l.prog w K mg base 1 "row_times" ["row", "factor"] (spRowTimes K) := has_of X G F_row_times a_row_times (ok_row_times F_row_times T) b_row_times
  have H_row_less : Has l.prog w K mg base 3 "row_less" ["row", "other"] (spRowLess K) := has_of X G F_row_less a_row_less (ok_row_less F_row_less T H_row_sum H_row_times) b_row_less
  have H_row_product : Has l.prog w K mg base 3 "row_product" ["row", "other"] (spRowProd K) := has_of X G F_row_product a_row_product (ok_row_product F_row_product T H_row_value H_row_through) b_row_product
  have H_row_of : Has l.prog w K mg base 2 "row_of" ["value"] (spRowOfN K C_Size) := has_of X G F_row_of a_row_of (ok_row_of F_row_of T o_Size no_Size nR_Size_row g_Size H_is_whole) b_row_of
  have Oi_sinit := ok_sinit (P := l.prog) (w := w) (mg := mg) (base := base) F_sinit cl_Size nR_Size_row H_check_wholes H_trimmed
  have S2_Size : MkH l.prog w K mg base 3 C_Size [] (spSInit K C_Size) := ⟨_, _, _, _, ⟨mk_Size, a_sinit, i_sinit, kC_Size⟩, Oi_sinit, b2_sinit, v2_sinit⟩
  have S1_Size : MkH l.prog w K mg base 3 C_Size [.ref T0_sinit] (spSInit K C_Size) := ⟨_, _, _, _, ⟨mk_Size, a_sinit, i_sinit, kC_Size⟩, Oi_sinit, b1_sinit, v1_sinit⟩
  have O_sneg : EO.OpH l.prog w K mg base 5 C_Size "__neg__" (spNeg K C_Size) := ⟨f_sneg, a_sneg, i_sneg, rawN (ok_sneg F_sneg T cl_Size nR_Size_row g_Size H_row_times S2_Size) b_sneg⟩
  have O_sadd : EO.OpH l.prog w K mg base 5 C_Size "__add__" (spS2 K C_Size M.plus okAdd) := ⟨f_sadd, a_sadd, i_sadd, rawN (ok_sadd F_sadd T cl_Size nR_Size_row g_Size H_row_of H_row_sum S2_Size) b_sadd⟩
  have O_ssub : EO.OpH l.prog w K mg base 5 C_Size "__sub__" (spS2 K C_Size M.less okSub) := ⟨f_ssub, a_ssub, i_ssub, rawN (ok_ssub F_ssub T cl_Size nR_Size_row g_Size H_row_of H_row_less S2_Size) b_ssub⟩
  have O_smul : EO.OpH l.prog w K mg base 5 C_Size "__mul__" (spS2 K C_Size M.prod okMul) := ⟨f_smul, a_smul, i_smul, rawN (ok_smul F_smul T cl_Size nR_Size_row g_Size H_row_of H_row_product S2_Size) b_smul⟩
  have O_sradd : EO.OpH l.prog w K mg base 6 C_Size "__radd__" (spRI K C_Size M.plus okAdd) := ⟨f_sradd, a_sradd, i_sradd, rawN (ok_sradd F_sradd T mx_Size_add O_sadd) b_sradd⟩
  have O_srsub : EO.OpH l.prog w K mg base 6 C_Size "__rsub__" (spRI K C_Size rsub okRsub) := ⟨f_srsub, a_srsub, i_srsub, rawN (ok_srsub F_srsub T mx_Size_add O_sneg O_sadd) b_srsub⟩
  have O_srmul : EO.OpH l.prog w K mg base 6 C_Size "__rmul__" (spRI K C_Size M.prod okMul) := ⟨f_srmul, a_srmul, i_srmul, rawN (ok_srmul F_srmul T mx_Size_mul O_smul) b_srmul⟩
  have O_srshift : EO.OpH l.prog w K mg base 5 C_Size "__rshift__" (spMove K C_Size (-1)) := ⟨f_srshift, a_srshift, i_srshift, rawN (ok_srshift F_srshift T cl_Size nR_Size_row g_Size H_check_whole H_row_ahead S2_Size) b_srshift⟩
  have O_slshift : EO.OpH l.prog w K mg base 5 C_Size "__lshift__" (spMove K C_Size 1) := ⟨f_slshift, a_slshift, i_slshift, rawN (ok_slshift F_slshift T cl_Size nR_Size_row g_Size H_check_whole H_row_ahead S2_Size) b_slshift⟩
  have O_spow : EO.OpH l.prog w K mg base 5 C_Size "__pow__" (spPow K C_Size) := ⟨f_spow, a_spow, i_spow, rawN (ok_spow F_spow T cl_Size nR_Size_row g_Size H_check_from H_row_product H_trimmed S2_Size) b_spow⟩
  have O_seq_ : EO.OpH l.prog w K mg base 1 C_Size "__eq__" (spSEq K C_Size) := ⟨f_seq_, a_seq_, i_seq_, rawN (ok_seq_ F_seq_ T o_Size nR_Size_row g_Size) b_seq_⟩
  have O_seqi : EO.OpH l.prog w K mg base 1 C_Size "__eq__" (spSEqI K C_Size) := ⟨f_seq_, a_seq_, i_seq_, rawN (ok_seqi F_seq_ T o_Size no_Size nR_Size_row g_Size) b_seq_⟩
  have O_sfloordiv : OpX l.prog w K mg base 5 C_Size "__floordiv__" (spFdivX K C_Size C_NotExact) := ⟨f_sfloordiv, a_sfloordiv, i_sfloordiv, rawX (ok_sfloordiv F_sfloordiv T cl_Size nR_Size_row g_Size H_is_whole E_NotExact S2_Size) b_sfloordiv⟩
  have H_ldivided : Has l.prog w K mg base 8 "_law_divided" ["_law_pen_here", "_law_size", "_law_row_here"] (spDivided K C_Size [(PD, qDiv)]) := has_of X G F_ldivided a_ldivided (ok_ldivided FC_ldivided T g_Size LE TB (List.mem_singleton_self _) (fun p hp _ => by rw [List.mem_singleton.mp hp]) mx_Size_floordiv H_pick H_sizeis O_sfloordiv S2_Size) b_ldivided
  exact ok_law F_law T g_Size sf_Size si_Size is_Size ne_Size mx_Size_add mx_Size_sub mx_Size_mul mx_Size_rshift mx_Size_lshift mx_Size_pow a_sadd a_ssub a_smul H_pen H_draw H_integer H_lrow H_cut H_lplus H_ltimes H_lrowof H_lat H_sizeis H_ldivided S2_Size O_sadd O_ssub O_smul O_sneg O_sradd O_srsub O_srmul O_srshift O_slshift O_spow O_seq_ O_seqi
theorem walk {l : PySem.W.OpenLaw} {q : Program} {loose : List Str} {XP : (Str → Option Value) → Heap → Prop} {YP : World → Heap → Prop} {d : DefRec} {K : Params → PySem.W.Frag} (hn : l.most = some 63) (hdf : d.params.defaults = []) (hrec : ((recsOf q).any fun e => e.name == ("_law_divided" : Str)) = true) (hY : ∀ (w : World) (h : Heap), YP w h → (K w.params).In h)
    (F : ∀ (w : World) (mg : Str → Option Value) (fa : Addr) (h : Heap), (K w.params).In h → h.Ns mainGlobals mg → mg d.name = some (.ref fa) →
      ∃ (fd : FuncData) (cD PD fD : Addr), mg "_law_divided" = some (.ref fD) ∧ (∃ (o : Obj) (fd2 : FuncData), (K w.params).lookup fD = some o ∧ o.data = .func fd2 ∧ fd2.code = .ref cD) ∧ (∃ (e : Value) (dd : Option Addr) (vs : Array Value) (sl : Array (Option Value)), (K w.params).lookup cD = some ⟨e, dd, .fields vs, sl⟩ ∧ vs[11]? = some (.ref PD)) ∧ (K w.params).lookup PD = none ∧ (∀ (s : Shared) (u : Value), BindsTo s fd ⟨[u], []⟩ [("_law_script", u)]) ∧ ∀ base : Heap, (K w.params).In base → base.Ns mainGlobals mg → LamX.TabB base mg cD PD → FnOk l.prog w (K w.params) mg base CX0 9 fa fd ["_law_script"] (spLawH (K w.params) [(PD, qDiv)])) :
    PySem.W.WalkO q loose XP YP l.row.toRowW d [] (fun f vs => PySem.call f vs) := by
  refine Att.attach_callB hn hdf fun w s₀ s₁ mg mb fa o pm cd doc a vs ns G Y ho hd hcd hmg hobj hints hlen hbits hg => ?_
  have KX := hY w _ Y
  obtain ⟨fd, cD, PD, fD, m1, ⟨o1, fd2, k1, k2, k3⟩, ⟨e, dd, vs1, sl, k4, k5⟩, nP, hb, hF⟩ := F w mg fa _ KX G.T.g hmg
  obtain ⟨dL, hm, hn1⟩ := List.any_eq_true.mp hrec
  have hn2 : dL.name = ("_law_divided" : Str) := beq_iff_eq.mp hn1
  obtain ⟨a', o', fd', c', P', h1, h2, h3, h4, h5, h6⟩ := G.T.tab dL hm
  rw [hn2, m1] at h1
  cases h1
  have g1 := KX _ _ k1
  rw [g1] at h2
  cases h2
  rw [k2] at h3
  cases h3
  rw [k3] at h4
  cases h4
  have CH := PySem.W.CodeHd.of h5 h6
  obtain ⟨⟨oc, vc, e1, _, e3, e4⟩, hP⟩ := h6
  have g2 := KX _ _ k4
  rw [g2] at e1
  cases e1
  cases e3
  rw [k5] at e4
  cases e4
  exact LamX.law_callTs (cs := [(cD, PD)]) (k := 9) (CX := CX0) KX G.T.g G.T.b G.T.builtins G.T.nolimit hg (fun p hp => by rw [List.mem_singleton.mp hp]; exact hP) (fun p hp => by rw [List.mem_singleton.mp hp]; exact nP) (fun p hp => by rw [List.mem_singleton.mp hp]; exact CH) G.T.bmain hobj hints (Nat.le_trans hlen (by decide)) ⟨rfl, by decide, by decide⟩
    (fun base kb nb tb => hF base kb nb (tb (cD, PD) (List.mem_singleton_self _))) hb (fun H hH hS => ⟨a, ns, rfl, hS, hlen, (fun p hp => by rw [List.mem_singleton.mp hp]; exact LamX.TabS.nil (hH (cD, PD) (List.mem_singleton_self _))), fun _ => rfl⟩) fun H e s' z => z
end
end EN

open PySem PySem.W PyProof.Rows
set_option maxRecDepth 100000 in
set_option maxHeartbeats 0 in
theorem PySem.Challenge.cw_everyname_k16_operators_of_sizes_holds : PySem.Challenge.rw_everyname_k16_operators_of_sizes.Holds := by
  w_on; o_law; k_head; (case hw => w_witness2)
  k_fill
  refine EN.walk (l := PySem.Challenge.rw_everyname_k16_operators_of_sizes) rfl rfl (by first | decide +kernel | rfl) (fun w h Y => PySem.W.km_in_of Y) ?F
  case F =>
    intro w mg fa h KX G hmg
    refine' EN.all_mk KX G hmg ?aC_Size ?pg_Size ?hd_Size ?po_Size ?sa_Size ?mk_Size ?kC_Size ?nR_Size_row ?ha_Size ?hn_Size ?htk_Size ?hm_Size ?sf_Size ?ty_Size ?si_Size ?st_Size ?ma_Size_add ?mb_Size_add ?ma_Size_sub ?mb_Size_sub ?ma_Size_mul ?mb_Size_mul ?ma_Size_rshift ?mb_Size_rshift ?mc_Size_rshift ?ma_Size_lshift ?mb_Size_lshift ?mc_Size_lshift ?ma_Size_pow ?mb_Size_pow ?mc_Size_pow ?ma_Size_floordiv ?mb_Size_floordiv ?mc_Size_floordiv ?na_Size ?nb_Size ?is_Size ?aC_EverynameError ?xC_EverynameError ?ty_EverynameError ?aC_BadValue ?xC_BadValue ?ty_BadValue ?ga_BadValue ?gg_BadValue ?hd_BadValue ?ha_BadValue ?hm_BadValue ?hn_E ?ht_E ?aC_NotExact ?xC_NotExact ?ty_NotExact ?ga_NotExact ?gg_NotExact ?hd_NotExact ?ha_NotExact ?hm_NotExact ?aC_EmptySpan ?xC_EmptySpan ?ty_EmptySpan ?ga_EmptySpan ?gg_EmptySpan ?hd_EmptySpan ?ha_EmptySpan ?hm_EmptySpan ?aC_NoBound ?xC_NoBound ?ty_NoBound ?ga_NoBound ?gg_NoBound ?hd_NoBound ?ha_NoBound ?hm_NoBound ?nF_BadValue_shown ?nF_NotExact_by ?su_BadValue_EverynameError ?su_NotExact_EverynameError ?su_EmptySpan_EverynameError ?su_NoBound_EverynameError ?su_BadValue_BadValue ?su_NotExact_NotExact ?su_EmptySpan_EmptySpan ?su_NoBound_NoBound ?su_BadValue_ValueError ?su_NotExact_BadValue ?su_EmptySpan_BadValue ?su_EmptySpan_NotExact ?su_NoBound_BadValue ?su_NoBound_NotExact ?su_NoBound_EmptySpan ?xL_NotExact ?sa_NotExact ?kC_NotExact ?z_ValueError ?a_nxinit ?t_nxinit ?l_nxinit ?c_nxinit ?k_nxinit ?a_pen ?l_pen ?c_pen ?k_pen ?a_draw ?l_draw ?c_draw ?k_draw ?a_pick ?l_pick ?c_pick ?k_pick ?a_lwhole ?l_lwhole ?c_lwhole ?k_lwhole ?a_great ?l_great ?c_great ?k_great ?a_integer ?l_integer ?c_integer ?k_integer ?a_choose ?l_choose ?c_choose ?k_choose ?a_lat ?l_lat ?c_lat ?k_lat ?a_cut ?l_cut ?c_cut ?k_cut ?a_lrowof ?l_lrowof ?c_lrowof ?k_lrowof ?a_lrow ?l_lrow ?c_lrow ?k_lrow ?a_lplus ?l_lplus ?c_lplus ?k_lplus ?a_ltimes ?l_ltimes ?c_ltimes ?k_ltimes ?a_sizeis ?l_sizeis ?c_sizeis ?k_sizeis ?a_is_whole ?l_is_whole ?c_is_whole ?k_is_whole ?a_check_whole ?l_check_whole ?c_check_whole ?k_check_whole ?a_check_from ?l_check_from ?c_check_from ?k_check_from ?a_check_wholes ?l_check_wholes ?c_check_wholes ?k_check_wholes ?a_chooses ?l_chooses ?c_chooses ?k_chooses ?a_row_value ?l_row_value ?c_row_value ?k_row_value ?a_row_through ?l_row_through ?c_row_through ?k_row_through ?a_row_ahead ?l_row_ahead ?c_row_ahead ?k_row_ahead ?a_trimmed ?l_trimmed ?c_trimmed ?k_trimmed ?a_row_sum ?l_row_sum ?c_row_sum ?k_row_sum ?a_row_times ?l_row_times ?c_row_times ?k_row_times ?a_row_less ?l_row_less ?c_row_less ?k_row_less ?a_row_product ?l_row_product ?c_row_product ?k_row_product ?a_row_of ?l_row_of ?c_row_of ?k_row_of ?a_sinit ?i_sinit ?l_sinit ?c_sinit ?k_sinit ?lTI_sinit ?lT0_sinit ?a_sneg ?i_sneg ?l_sneg ?c_sneg ?k_sneg ?a_sadd ?i_sadd ?l_sadd ?c_sadd ?k_sadd ?a_ssub ?i_ssub ?l_ssub ?c_ssub ?k_ssub ?a_smul ?i_smul ?l_smul ?c_smul ?k_smul ?a_sradd ?i_sradd ?l_sradd ?c_sradd ?k_sradd ?a_srsub ?i_srsub ?l_srsub ?c_srsub ?k_srsub ?a_srmul ?i_srmul ?l_srmul ?c_srmul ?k_srmul ?a_srshift ?i_srshift ?l_srshift ?c_srshift ?k_srshift ?a_slshift ?i_slshift ?l_slshift ?c_slshift ?k_slshift ?a_spow ?i_spow ?l_spow ?c_spow ?k_spow ?a_seq_ ?i_seq_ ?l_seq_ ?c_seq_ ?k_seq_ ?a_sfloordiv ?i_sfloordiv ?l_sfloordiv ?c_sfloordiv ?k_sfloordiv ?a_lerror ?l_lerror ?c_lerror ?k_lerror ?a_ldivided ?l_ldivided ?c_ldivided ?k_ldivided ?a_law ?l_law ?c_law ?k_law ?z_list ?z_len ?z_int ?z_abs ?z_range ?z_tuple ?z_isinstance ?z_bool ?z_all ?z_sum ?z_zip ?z_min ?z_sorted ?z_any ?z_set ?z_max ?z_str ?z_enumerate ?z_reversed ?z_dict ?lcD ?v11 ?nPD
    (case aC_Size => k_is); (case pg_Size => k_is); (case hd_Size => k_is); (case po_Size => k_is)
    (case sa_Size => k_is); (case mk_Size => k_is); (case kC_Size => k_is); (case nR_Size_row => k_is)
    (case ha_Size => k_is); (case hn_Size => k_is); (case htk_Size => k_is); (case hm_Size => k_is)
    (case sf_Size => k_is); (case ty_Size => k_is); (case si_Size => k_is); (case st_Size => k_is)
    (case ma_Size_add => k_is); (case mb_Size_add => k_is); (case ma_Size_sub => k_is); (case mb_Size_sub => k_is)
    (case ma_Size_mul => k_is); (case mb_Size_mul => k_is); (case ma_Size_rshift => k_is); (case mb_Size_rshift => k_is)
    (case mc_Size_rshift => k_is); (case ma_Size_lshift => k_is); (case mb_Size_lshift => k_is); (case mc_Size_lshift => k_is)
    (case ma_Size_pow => k_is); (case mb_Size_pow => k_is); (case mc_Size_pow => k_is); (case ma_Size_floordiv => k_is)
    (case mb_Size_floordiv => k_is); (case mc_Size_floordiv => k_is); (case na_Size => k_is); (case nb_Size => k_is)
    (case is_Size => k_is); (case aC_EverynameError => k_is); (case xC_EverynameError => k_is); (case ty_EverynameError => k_is)
    (case aC_BadValue => k_is); (case xC_BadValue => k_is); (case ty_BadValue => k_is); (case ga_BadValue => k_is)
    (case gg_BadValue => k_is); (case hd_BadValue => k_is); (case ha_BadValue => k_is); (case hm_BadValue => k_is)
    (case hn_E => k_is); (case ht_E => k_is); (case aC_NotExact => k_is); (case xC_NotExact => k_is)
    (case ty_NotExact => k_is); (case ga_NotExact => k_is); (case gg_NotExact => k_is); (case hd_NotExact => k_is)
    (case ha_NotExact => k_is); (case hm_NotExact => k_is); (case aC_EmptySpan => k_is); (case xC_EmptySpan => k_is)
    (case ty_EmptySpan => k_is); (case ga_EmptySpan => k_is); (case gg_EmptySpan => k_is); (case hd_EmptySpan => k_is)
    (case ha_EmptySpan => k_is); (case hm_EmptySpan => k_is); (case aC_NoBound => k_is); (case xC_NoBound => k_is)
    (case ty_NoBound => k_is); (case ga_NoBound => k_is); (case gg_NoBound => k_is); (case hd_NoBound => k_is)
    (case ha_NoBound => k_is); (case hm_NoBound => k_is); (case nF_BadValue_shown => k_is); (case nF_NotExact_by => k_is)
    (case su_BadValue_EverynameError => k_is); (case su_NotExact_EverynameError => k_is); (case su_EmptySpan_EverynameError => k_is); (case su_NoBound_EverynameError => k_is)
    (case su_BadValue_BadValue => k_is); (case su_NotExact_NotExact => k_is); (case su_EmptySpan_EmptySpan => k_is); (case su_NoBound_NoBound => k_is)
    (case su_BadValue_ValueError => k_is); (case su_NotExact_BadValue => k_is); (case su_EmptySpan_BadValue => k_is); (case su_EmptySpan_NotExact => k_is)
    (case su_NoBound_BadValue => k_is); (case su_NoBound_NotExact => k_is); (case su_NoBound_EmptySpan => k_is); (case xL_NotExact => k_is)
    (case sa_NotExact => k_is); (case kC_NotExact => k_is); (case z_ValueError => k_is); (case a_nxinit => k_is)
    (case t_nxinit => k_is); (case l_nxinit => k_is); (case c_nxinit => k_is); (case k_nxinit => k_is)
    (case a_pen => k_is); (case l_pen => k_is); (case c_pen => k_is); (case k_pen => k_is)
    (case a_draw => k_is); (case l_draw => k_is); (case c_draw => k_is); (case k_draw => k_is)
    (case a_pick => k_is); (case l_pick => k_is); (case c_pick => k_is); (case k_pick => k_is)
    (case a_lwhole => k_is); (case l_lwhole => k_is); (case c_lwhole => k_is); (case k_lwhole => k_is)
    (case a_great => k_is); (case l_great => k_is); (case c_great => k_is); (case k_great => k_is)
    (case a_integer => k_is); (case l_integer => k_is); (case c_integer => k_is); (case k_integer => k_is)
    (case a_choose => k_is); (case l_choose => k_is); (case c_choose => k_is); (case k_choose => k_is)
    (case a_lat => k_is); (case l_lat => k_is); (case c_lat => k_is); (case k_lat => k_is)
    (case a_cut => k_is); (case l_cut => k_is); (case c_cut => k_is); (case k_cut => k_is)
    (case a_lrowof => k_is); (case l_lrowof => k_is); (case c_lrowof => k_is); (case k_lrowof => k_is)
    (case a_lrow => k_is); (case l_lrow => k_is); (case c_lrow => k_is); (case k_lrow => k_is)
    (case a_lplus => k_is); (case l_lplus => k_is); (case c_lplus => k_is); (case k_lplus => k_is)
    (case a_ltimes => k_is); (case l_ltimes => k_is); (case c_ltimes => k_is); (case k_ltimes => k_is)
    (case a_sizeis => k_is); (case l_sizeis => k_is); (case c_sizeis => k_is); (case k_sizeis => k_is)
    (case a_is_whole => k_is); (case l_is_whole => k_is); (case c_is_whole => k_is); (case k_is_whole => k_is)
    (case a_check_whole => k_is); (case l_check_whole => k_is); (case c_check_whole => k_is); (case k_check_whole => k_is)
    (case a_check_from => k_is); (case l_check_from => k_is); (case c_check_from => k_is); (case k_check_from => k_is)
    (case a_check_wholes => k_is); (case l_check_wholes => k_is); (case c_check_wholes => k_is); (case k_check_wholes => k_is)
    (case a_chooses => k_is); (case l_chooses => k_is); (case c_chooses => k_is); (case k_chooses => k_is)
    (case a_row_value => k_is); (case l_row_value => k_is); (case c_row_value => k_is); (case k_row_value => k_is)
    (case a_row_through => k_is); (case l_row_through => k_is); (case c_row_through => k_is); (case k_row_through => k_is)
    (case a_row_ahead => k_is); (case l_row_ahead => k_is); (case c_row_ahead => k_is); (case k_row_ahead => k_is)
    (case a_trimmed => k_is); (case l_trimmed => k_is); (case c_trimmed => k_is); (case k_trimmed => k_is)
    (case a_row_sum => k_is); (case l_row_sum => k_is); (case c_row_sum => k_is); (case k_row_sum => k_is)
    (case a_row_times => k_is); (case l_row_times => k_is); (case c_row_times => k_is); (case k_row_times => k_is)
    (case a_row_less => k_is); (case l_row_less => k_is); (case c_row_less => k_is); (case k_row_less => k_is)
    (case a_row_product => k_is); (case l_row_product => k_is); (case c_row_product => k_is); (case k_row_product => k_is)
    (case a_row_of => k_is); (case l_row_of => k_is); (case c_row_of => k_is); (case k_row_of => k_is)
    (case a_sinit => k_is); (case i_sinit => k_is); (case l_sinit => k_is); (case c_sinit => k_is)
    (case k_sinit => k_is); (case lTI_sinit => k_is); (case lT0_sinit => k_is); (case a_sneg => k_is)
    (case i_sneg => k_is); (case l_sneg => k_is); (case c_sneg => k_is); (case k_sneg => k_is)
    (case a_sadd => k_is); (case i_sadd => k_is); (case l_sadd => k_is); (case c_sadd => k_is)
    (case k_sadd => k_is); (case a_ssub => k_is); (case i_ssub => k_is); (case l_ssub => k_is)
    (case c_ssub => k_is); (case k_ssub => k_is); (case a_smul => k_is); (case i_smul => k_is)
    (case l_smul => k_is); (case c_smul => k_is); (case k_smul => k_is); (case a_sradd => k_is)
    (case i_sradd => k_is); (case l_sradd => k_is); (case c_sradd => k_is); (case k_sradd => k_is)
    (case a_srsub => k_is); (case i_srsub => k_is); (case l_srsub => k_is); (case c_srsub => k_is)
    (case k_srsub => k_is); (case a_srmul => k_is); (case i_srmul => k_is); (case l_srmul => k_is)
    (case c_srmul => k_is); (case k_srmul => k_is); (case a_srshift => k_is); (case i_srshift => k_is)
    (case l_srshift => k_is); (case c_srshift => k_is); (case k_srshift => k_is); (case a_slshift => k_is)
    (case i_slshift => k_is); (case l_slshift => k_is); (case c_slshift => k_is); (case k_slshift => k_is)
    (case a_spow => k_is); (case i_spow => k_is); (case l_spow => k_is); (case c_spow => k_is)
    (case k_spow => k_is); (case a_seq_ => k_is); (case i_seq_ => k_is); (case l_seq_ => k_is)
    (case c_seq_ => k_is); (case k_seq_ => k_is); (case a_sfloordiv => k_is); (case i_sfloordiv => k_is)
    (case l_sfloordiv => k_is); (case c_sfloordiv => k_is); (case k_sfloordiv => k_is); (case a_lerror => k_is)
    (case l_lerror => k_is); (case c_lerror => k_is); (case k_lerror => k_is); (case a_ldivided => k_is)
    (case l_ldivided => k_is); (case c_ldivided => k_is); (case k_ldivided => k_is); (case a_law => k_is)
    (case l_law => k_is); (case c_law => k_is); (case k_law => k_is); (case z_list => k_is)
    (case z_len => k_is); (case z_int => k_is); (case z_abs => k_is); (case z_range => k_is)
    (case z_tuple => k_is); (case z_isinstance => k_is); (case z_bool => k_is); (case z_all => k_is)
    (case z_sum => k_is); (case z_zip => k_is); (case z_min => k_is); (case z_sorted => k_is)
    (case z_any => k_is); (case z_set => k_is); (case z_max => k_is); (case z_str => k_is)
    (case z_enumerate => k_is); (case z_reversed => k_is); (case z_dict => k_is); (case lcD => k_is)
    (case v11 => exact rfl); (case nPD => first | k_is | rfl | decide +kernel)

