import PyProof.Rows.All
import Wide.All
import OpenK.AllK
import Wide.FinOn
import HandS.ForMost
import KE.GoesEnum
import KE.GoesMore
import HandS.SortInts
import HandS.SetFor
import HandS.Strs
import HandS.Style
import HandS.Flow
import HandS.Wide
import HandS.IsInst
import HandS.Defaults
import HandS.EndBits
import HandS.TupAny
import HandS.Property
import HandS.ClsMeth
import HandS.Star
import HandS.Gcd
import HandS.Evl
import HandS.RaiseMore
import KE.KMathGC
import HandS.Comp
import HandS.More
import KE.KOpsOwn
import HandS.Deep
import PySem.Challenge.RW_everyname_k18_whole_sizes_compared_for_e
set_option Elab.async false
set_option linter.all false
set_option maxRecDepth 100000
set_option maxHeartbeats 4000000
/-! zip of two and of three, each a list or a tuple; comprehensions over any iterator -/
namespace ZK
open PySem PySem.Spec PyProof.Rows L2
inductive Kd where | l | t
def SqK (K : PySem.W.Frag) (H : Hp) (a : Addr) (xs : List V) : Kd → Prop
  | .l => SqL K H a xs
  | .t => SqT K H a xs
def IterK (h : Heap) (it a : Addr) (i : Nat) : Kd → Prop
  | .l => h.IsListIter it a i
  | .t => h.IsTupleIter it a i
def ArrK (h : Heap) (a : Addr) (items : Array Value) : Kd → Prop
  | .l => h.IsList a items
  | .t => h.IsTuple a items
def firstO (a : Addr) : Kd → Obj
  | .l => { cls := .type "list_iterator", data := .fields #[.ref a, .int 0 0] }
  | .t => { cls := .type "tuple_iterator", data := .fields #[.ref a, .int 0 0] }
theorem iterK_at {h h' : Heap} {it a : Addr} {i : Nat} : ∀ {k : Kd}, IterK h it a i k → (∀ o, h.get? it = some o → h'.get? it = some o) → IterK h' it a i k
  | .l, x, e => Heap.IsListIter.at x e
  | .t, x, e => Heap.IsTupleIter.at x e
theorem iterK_obj {h : Heap} {it a : Addr} {i : Nat} : ∀ {k : Kd}, IterK h it a i k → ∃ o, h.get? it = some o ∧ ∀ v, o.data ≠ .cell v
  | .l, ⟨o, e, _, d⟩ => ⟨o, e, fun v q => by rw [d] at q; cases q⟩
  | .t, ⟨o, e, _, d⟩ => ⟨o, e, fun v q => by rw [d] at q; cases q⟩
theorem iterK_first {h : Heap} {it a : Addr} : ∀ {k : Kd}, h.get? it = some (firstO a k) → IterK h it a 0 k
  | .l, e => ⟨_, e, rfl, rfl⟩
  | .t, e => ⟨_, e, rfl, rfl⟩
theorem drawsK {prog : Program} {w : World} {A : Around} (hh : A.handled = none) (it a : Addr) (hne : a ≠ it) (items : Array Value) :
    ∀ k : Kd, Draws prog w A it [it, a] items.size (fun i v => items[i]? = some v) (fun i h => IterK h it a i k ∧ ArrK h a items k)
  | .l => Draws.list hh it a hne items
  | .t => Draws.tuple hh it a hne items
theorem beginsK (a : Addr) (items : Array Value) : ∀ k : Kd, Begins (.ref a) (firstO a k) fun h => ArrK h a items k
  | .l => begins_list a items
  | .t => begins_tuple a items
section
variable {X : Cx} {pins : List (Addr × Obj)} {σ : L2.St} {H : Hp} {s : Shared} {a : Addr} {xs ys : List V}
theorem invK (I : Inv X pins σ H s) : ∀ {k : Kd}, SqK X.K H a xs k → ∃ its : List Value, Vals xs its ∧ ArrK s.heap a its.toArray k ∧ xs.length ≤ sizeLine ∧ a < s.heap.objs.size
  | .l, h => by
    obtain ⟨its, r, p, z⟩ := I.list h
    exact ⟨its, r, p.isList, z, p.lt⟩
  | .t, h => by
    obtain ⟨its, r, p, z⟩ := I.tuple h
    exact ⟨its, r, p, z, p.lt⟩
theorem injK (I : Inv X pins σ H s) : ∀ {k : Kd}, SqK X.K H a xs k → SqK X.K H a ys k → xs = ys
  | .l, h, h' => I.list_inj h h'
  | .t, h, h' => I.tuple_inj h h'
end
theorem SqK.same {K : PySem.W.Frag} {H H' : Hp} {a : Addr} {xs : List V} (s : Same H H') : ∀ {k : Kd}, SqK K H a xs k → SqK K H' a xs k
  | .l, h => s.seq h
  | .t, h => by
    rcases h with (h | ⟨o, h⟩) | h
    · exact .inl (.inl (s _ _ h))
    · exact .inl (.inr ⟨o, s _ _ h⟩)
    · exact .inr h

/-! ### zip of two -/
def Itz2 (K : PySem.W.Frag) (k1 k2 : Kd) (a b : Addr) : It :=
  ⟨fun i H => ∃ (xs ys : List V) (x y : V), SqK K H a xs k1 ∧ SqK K H b ys k2 ∧ xs[i]? = some x ∧ ys[i]? = some y,
    fun i H v H' => ∃ T x y, v = .ref T ∧ H T = none ∧ H' = upd H T (.tup [x, y]) ∧ (∀ xs, SqK K H a xs k1 → xs[i]? = some x) ∧ ∀ ys, SqK K H b ys k2 → ys[i]? = some y,
    fun i H => ∃ xs ys : List V, SqK K H a xs k1 ∧ SqK K H b ys k2 ∧ i ≤ xs.length ∧ i ≤ ys.length ∧ (i = xs.length ∨ i = ys.length)⟩
theorem turn_z2 {P : Program} {w : World} {K : PySem.W.Frag} {elts : List Expr} {kk : Nat} {tpos : Pos} {k1 k2 : Kd} {a b z TI TO i1 i2 : Addr} (S : ZipSep2 z TI TO i1 i2 [i1, a] [i2, b]) (n1 : a ≠ i1) (n2 : b ≠ i2) :
    Turn P w K (.Tuple elts kk tpos) (Itz2 K k1 k2 a b) [z, TI, TO, i1, i2] z
      (fun i h => IsZip h z TI TO .none ∧ IsTupOf2 h TI (.ref i1) (.ref i2) ∧ (∃ x y, IsTupOf2 h TO x y) ∧ IterK h i1 a i k1 ∧ IterK h i2 b i k2) where
  mem := by simp
  obj := fun i h st c hc => by
    obtain ⟨hz, hTI, ⟨x, y, hTO⟩, h1, h2⟩ := st
    simp only [List.mem_cons, List.mem_nil_iff, or_false] at hc
    rcases hc with rfl | rfl | rfl | rfl | rfl
    · exact ⟨_, hz, fun v q => nomatch q⟩
    · exact ⟨_, hTI, fun v q => nomatch q⟩
    · exact ⟨_, hTO, fun v q => nomatch q⟩
    · exact iterK_obj h1
    · exact iterK_obj h2
  keep := fun i h h' st k => by
    obtain ⟨hz, hTI, ⟨x, y, hTO⟩, h1, h2⟩ := st
    exact ⟨k z (by simp) _ hz, k TI (by simp) _ hTI, ⟨x, y, k TO (by simp) _ hTO⟩, iterK_at h1 fun o q => k i1 (by simp) o q, iterK_at h2 fun o q => k i2 (by simp) o q⟩
  item := by
    intro X hP hw hK hc i pins s σ H E I hf st hg
    subst hP hw hK
    obtain ⟨hz, hTI, ⟨x0, y0, hTO⟩, h1, h2⟩ := st
    obtain ⟨xs, ys, x, y, qx, qy, hx, hy⟩ := hg
    obtain ⟨its1, rv1, p1, _, _⟩ := invK I qx
    obtain ⟨its2, rv2, p2, _, _⟩ := invK I qy
    obtain ⟨u1, hu1, ru1⟩ := rv1.get hx
    obtain ⟨u2, hu2, ru2⟩ := rv2.get hy
    have hh : X.A.in1.handled = none := I.ok.hd hc
    have l1 : i < its1.toArray.size := by simpa using (List.getElem?_eq_some_iff.mp hu1).1
    have l2 : i < its2.toArray.size := by simpa using (List.getElem?_eq_some_iff.mp hu2).1
    have zlt : z < s.heap.objs.size := Heap.lt_size hz
    refine wpAny_pyNext_zipD2_item S (drawsK hh i1 a n1 its1.toArray k1) (drawsK hh i2 b n2 its2.toArray k2) hz hTI hTO ⟨h1, p1⟩ ⟨h2, p2⟩ l1 l2 fun v1 v2 h' tk pv1 pv2 z' TO' s1 s2 hT hsz hk => ?_
    have e1 : v1 = u1 := by simpa [hu1] using pv1.symm
    have e2 : v2 = u2 := by simpa [hu2] using pv2.symm
    subst e1 e2
    refine ⟨_, rfl, wpAny_letOwnedTupleGo_zip (s := { s with heap := h', toks := tk }) z' fun h'' z'' sb => ?_⟩
    have hT2 := (sb.2 _ (Nat.ne_of_gt zlt)).trans hT
    have new : ObjOk X.prog X.w (upd H s.heap.objs.size (.tup [x, y])) h'' s.heap.objs.size (.tup [x, y]) :=
      ⟨by show 2 ≤ sizeLine; decide, [v1, v2], .cons ru1 (.cons ru2 .nil), ⟨_, hT2, rfl, _, rfl⟩⟩
    have stay : ∀ c o, c ∉ [z, TI, TO, i1, i2] → s.heap.get? c = some o → h''.get? c = some o := fun c o hc q => by
      simp only [List.mem_cons, List.mem_nil_iff, or_false, not_or] at hc
      exact (sb.2 c hc.1).trans (hk c o hc.1 hc.2.2.1 hc.2.2.2.1 hc.2.2.2.2 q)
    have I1 := I.turnedNew (t' := tk) (ch := [z, TI, TO, i1, i2]) stay hf (Nat.le_refl _) new
    refine ⟨.ref s.heap.objs.size, _, I1, rfl, ⟨_, x, y, rfl, I.hok.fresh (Nat.le_refl _), rfl, fun l hl => by rw [injK I hl qx]; exact hx, fun l hl => by rw [injK I hl qy]; exact hy⟩, ⟨z'', ?_, ⟨v1, v2, ?_⟩, ?_, ?_⟩, fun c hcm => ?_⟩
    · exact (sb.2 _ S.TIz).trans (hk _ _ S.TIz S.TITO S.TIi1 S.TIi2 hTI)
    · exact (sb.2 _ S.TOz).trans TO'
    · exact iterK_at s1.1 fun o q => (sb.2 _ S.zi1.symm).trans q
    · exact iterK_at s2.1 fun o q => (sb.2 _ S.zi2.symm).trans q
    · have hlt : c < s.heap.objs.size := by
        simp only [List.mem_cons, List.mem_nil_iff, or_false] at hcm
        rcases hcm with rfl | rfl | rfl | rfl | rfl
        · exact zlt
        · exact Heap.lt_size hTI
        · exact Heap.lt_size hTO
        · obtain ⟨_, e, _⟩ := iterK_obj h1; exact Heap.lt_size e
        · obtain ⟨_, e, _⟩ := iterK_obj h2; exact Heap.lt_size e
      rw [upd_ne (Nat.ne_of_lt hlt)]
      exact (hf c hcm).1
  done := by
    intro X hP hw hK hc i pins s σ H E I hf st hg
    subst hP hw hK
    obtain ⟨hz, hTI, ⟨x0, y0, hTO⟩, h1, h2⟩ := st
    obtain ⟨xs, ys, qx, qy, le1, le2, hend⟩ := hg
    obtain ⟨its1, rv1, p1, _, _⟩ := invK I qx
    obtain ⟨its2, rv2, p2, _, _⟩ := invK I qy
    have hh : X.A.in1.handled = none := I.ok.hd hc
    have e1 := rv1.length
    have e2 := rv2.length
    refine wpAny_pyNext_zipD2_end S (drawsK hh i1 a n1 its1.toArray k1) (drawsK hh i2 b n2 its2.toArray k2) hz hTI hTO ⟨h1, p1⟩ ⟨h2, p2⟩ (by simp; omega) (by simp; omega) (by simp; omega) fun h' tk hk => ⟨rfl, ?_⟩
    refine I.turnedL (t' := tk) (ch := [z, TI, TO, i1, i2]) (fun c o hc q => ?_) hf
    simp only [List.mem_cons, List.mem_nil_iff, or_false, not_or] at hc
    exact hk c o hc.1 hc.2.2.1 hc.2.2.2.1 hc.2.2.2.2 q
  self := fun A i s Q E st h => wpAny_pyIter_zip st.1 h
def iZip2 (K : PySem.W.Frag) (k1 k2 : Kd) (ta : TA) : TI := fun σ H R => ta σ H fun vs H1 => ∃ a b xs ys, vs = [.ref a, .ref b] ∧ SqK K H1 a xs k1 ∧ SqK K H1 b ys k2 ∧ R (Itz2 K k1 k2 a b) H1
theorem pi_zip2 {X : Cx} {e e2 : Expr} {ta : TA} {p pos tpos : Pos} {elts : List Expr} {kk : Nat} (k1 k2 : Kd) (hg : Gl X "zip") (hm : X.mg "zip" = none) (ha : PA X [e, e2] ta)
    (hs : starEach [e, e2] X.env = (false, eval e X.env) :: starEach [e2] X.env := by rfl) (hpl : (backTo pos (starEach [e2] X.env)).any (·.1) = false := by rfl) :
    PI X (.Tuple elts kk tpos) (.Call (.Name "zip" p) [e, e2] [] pos) (iZip2 X.K k1 k2 ta) := by
  refine ⟨fun pins s σ H R I h => ?_⟩
  refine Call_ (ld_blt I hg hm PyProof.Rows.boot_zip (PyProof.Rows.callWith_type1 (thn (ha.run pos pins s σ H _ I h) fun us s1 ⟨vs, H1, I1, r1, q1⟩ => ?_) hs hpl))
  obtain ⟨a, b, xs, ys, ex, qx, qy, q⟩ := q1
  subst ex
  obtain ⟨u1, u2, rfl, ra, rb⟩ := vals2 r1
  cases (show u1 = Value.ref a from ra)
  cases (show u2 = Value.ref b from rb)
  obtain ⟨its1, rv1, p1, _, la⟩ := invK I1 qx
  obtain ⟨its2, rv2, p2, _, lb⟩ := invK I1 qy
  generalize hN : s1.heap.objs.size = N at la lb
  have fresh : ∀ c, c ∈ [N + 4, N + 2, N + 3, N, N + 1] → FpOk X pins H1 c := fun c hc => by
    have hle : s1.heap.objs.size ≤ c := by
      simp only [List.mem_cons, List.mem_nil_iff, or_false] at hc
      omega
    exact I1.fpOk hle (I1.hok.fresh hle)
  refine zip_begins2 (beginsK a its1.toArray k1) (beginsK b its2.toArray k2) p1 p2 fun h' hz hTI hTO g1 g2 hsz hk => wpAny_pyIter_zip hz ?_
  rw [hN] at hz hTI hTO g1 g2 ⊢
  have I2 : Inv X pins σ H1 { s1 with heap := h' } := I1.kept (t' := s1.toks) hk
  exact ⟨N + 4, [N + 4, N + 2, N + 3, N, N + 1], _, _, H1, rfl, I2, turn_z2 (zip_sep2 (fp1 := [a]) (fp2 := [b]) (by simpa using la) (by simpa using lb)) (Nat.ne_of_lt la) (Nat.ne_of_lt (Nat.lt_succ_of_lt lb)), ⟨hz, hTI, ⟨_, _, hTO⟩, iterK_first g1, iterK_first g2⟩, fresh, q⟩

/-! ### comprehensions over any iterator of n turns -/
theorem lc_any {J : It} {g : TG} {tt : TT} {te : TE} {vs : List Nat} {σ : L2.St} {H1 : Hp} {D : Addr} {Qd : Hp → Prop} (n : Nat) (Pv : Nat → Hp → Prop) (h0 : Pv 0 (upd H1 D (.lst [])))
    (hgo : ∀ i H, i < n → Pv i H → J.go i H) (hstop : ∀ H, Pv n H → J.stop n H)
    (hs : ∀ i H x H', i < n → Pv i H → J.yld i H x H' → g x (wipe σ vs) H' fun σ2 H2 => wipe σ2 vs = wipe σ vs ∧ tt σ2 H2 fun b H3 =>
      if b = true then te σ2 H3 fun y H4 => ∃ acc, H4 D = some (.lst acc) ∧ acc.length < sizeLine ∧ Pv (i + 1) (upd H4 D (.lst (acc ++ [y]))) else Pv (i + 1) H3) (hd : ∀ H, Pv n H → Qd H) :
    ∃ W : Nat → Nat → Hp → Prop, (∃ m, W 0 m (upd H1 D (.lst []))) ∧ ∀ i m H, W i m H →
      (J.stop i H ∧ Qd H) ∨ (J.go i H ∧ ∃ Nx : Hp → Prop, (∀ H', Nx H' → ∃ m', m' < m ∧ W (i + 1) m' H') ∧ ∀ x H', J.yld i H x H' → g x (wipe σ vs) H' fun σ2 H2 => wipe σ2 vs = wipe σ vs ∧ tt σ2 H2 fun b H3 =>
        if b = true then te σ2 H3 fun y H4 => ∃ acc, H4 D = some (.lst acc) ∧ acc.length < sizeLine ∧ Nx (upd H4 D (.lst (acc ++ [y]))) else Nx H3) := by
  refine ⟨fun i m H => i + m = n ∧ Pv i H, ⟨n, Nat.zero_add _, h0⟩, fun i m H ⟨e, p⟩ => ?_⟩
  by_cases hi : i < n
  · exact .inr ⟨hgo i H hi p, Pv (i + 1), fun H' p' => ⟨m - 1, by omega, by omega, p'⟩, fun x H' y => hs i H x H' hi p y⟩
  · obtain rfl : i = n := by omega
    exact .inl ⟨hstop H p, hd H p⟩
/-- one new member a turn: R i y is known of the i-th; I i of the heap ahead of turn i -/
theorem lc_grow {J : It} {g : TG} {te : TE} {vs : List Nat} {σ : L2.St} {H1 : Hp} {D : Addr} {Qd : Hp → Prop} (n : Nat) (hn : n < sizeLine) (I : Nat → Hp → Prop) (R : Nat → V → Prop) (h0 : I 0 (upd H1 D (.lst [])))
    (hgo : ∀ i H, i < n → I i H → J.go i H) (hstop : ∀ H, I n H → J.stop n H)
    (hs : ∀ i H x H' acc, i < n → I i H → H D = some (.lst acc) → acc.length = i → (∀ j y, acc[j]? = some y → R j y) → J.yld i H x H' → ∀ Qn : VK,
      (∀ y H4, R i y → H4 D = some (.lst acc) → I (i + 1) (upd H4 D (.lst (acc ++ [y]))) → Qn y H4) → g x (wipe σ vs) H' fun σ2 H2 => wipe σ2 vs = wipe σ vs ∧ te σ2 H2 Qn)
    (hd : ∀ H acc, I n H → H D = some (.lst acc) → acc.length = n → (∀ i y, acc[i]? = some y → R i y) → Qd H) :
    ∃ W : Nat → Nat → Hp → Prop, (∃ m, W 0 m (upd H1 D (.lst []))) ∧ ∀ i m H, W i m H →
      (J.stop i H ∧ Qd H) ∨ (J.go i H ∧ ∃ Nx : Hp → Prop, (∀ H', Nx H' → ∃ m', m' < m ∧ W (i + 1) m' H') ∧ ∀ x H', J.yld i H x H' → g x (wipe σ vs) H' fun σ2 H2 => wipe σ2 vs = wipe σ vs ∧ tYes σ2 H2 fun b H3 =>
        if b = true then te σ2 H3 fun y H4 => ∃ acc, H4 D = some (.lst acc) ∧ acc.length < sizeLine ∧ Nx (upd H4 D (.lst (acc ++ [y]))) else Nx H3) := by
  refine lc_any n (fun i H => I i H ∧ ∃ acc, H D = some (.lst acc) ∧ acc.length = i ∧ ∀ j y, acc[j]? = some y → R j y) ⟨h0, [], upd_same, rfl, fun j y h => by simp at h⟩ (fun i H hi p => hgo i H hi p.1) (fun H p => hstop H p.1) (fun i H x H' hi p y => ?_) (fun H p => ?_)
  · obtain ⟨pI, acc, hD, hl, hR⟩ := p
    have z := hs i H x H' acc hi pI hD hl hR y (fun y H4 => ∃ acc, H4 D = some (.lst acc) ∧ acc.length < sizeLine ∧ I (i + 1) (upd H4 D (.lst (acc ++ [y]))) ∧ ∃ acc', (upd H4 D (.lst (acc ++ [y]))) D = some (.lst acc') ∧ acc'.length = i + 1 ∧ ∀ j y, acc'[j]? = some y → R j y) fun z H4 hr h4 hi4 => by
      refine ⟨acc, h4, by omega, hi4, acc ++ [z], upd_same, by simp [hl], fun j u hj => ?_⟩
      by_cases hja : j < acc.length
      · rw [List.getElem?_append_left hja] at hj
        exact hR j u hj
      · have hj2 : j = i := by
          have := (List.getElem?_eq_some_iff.mp hj).1
          simp at this
          omega
        subst hj2
        rw [List.getElem?_append_right (by omega), hl] at hj
        simp at hj
        rw [← hj]
        exact hr
    have e : ∀ (A : TE) (B : Hp → Prop) (Q : VK), (fun (σ2 : L2.St) (H2 : Hp) => wipe σ2 vs = wipe σ vs ∧ A σ2 H2 Q) = fun σ2 H2 => wipe σ2 vs = wipe σ vs ∧ tYes σ2 H2 fun b H3 => if b = true then A σ2 H3 Q else B H3 := fun A B Q => by
      funext σ2 H2
      simp [tYes]
    rw [e te (fun H3 => I (i + 1) H3 ∧ ∃ acc', H3 D = some (.lst acc') ∧ acc'.length = i + 1 ∧ ∀ j y, acc'[j]? = some y → R j y)] at z
    exact z
  · obtain ⟨pI, acc, hD, hl, hR⟩ := p
    exact hd H acc pI hD hl hR
/-- over range(n) -/
theorem lc_growR {g : TG} {te : TE} {vs : List Nat} {σ : L2.St} {H1 : Hp} {D : Addr} {Qd : Hp → Prop} {lo : Int} (n : Nat) (hn : n < sizeLine) (I : Nat → Hp → Prop) (R : Nat → V → Prop) (h0 : I 0 (upd H1 D (.lst [])))
    (hs : ∀ i H acc, i < n → I i H → H D = some (.lst acc) → acc.length = i → (∀ j y, acc[j]? = some y → R j y) → ∀ Qn : VK,
      (∀ y H4, R i y → H4 D = some (.lst acc) → I (i + 1) (upd H4 D (.lst (acc ++ [y]))) → Qn y H4) → g (.int (lo + i)) (wipe σ vs) H fun σ2 H2 => wipe σ2 vs = wipe σ vs ∧ te σ2 H2 Qn)
    (hd : ∀ H acc, I n H → H D = some (.lst acc) → acc.length = n → (∀ i y, acc[i]? = some y → R i y) → Qd H) :
    ∃ W : Nat → Nat → Hp → Prop, (∃ m, W 0 m (upd H1 D (.lst []))) ∧ ∀ i m H, W i m H →
      ((Itr lo n).stop i H ∧ Qd H) ∨ ((Itr lo n).go i H ∧ ∃ Nx : Hp → Prop, (∀ H', Nx H' → ∃ m', m' < m ∧ W (i + 1) m' H') ∧ ∀ x H', (Itr lo n).yld i H x H' → g x (wipe σ vs) H' fun σ2 H2 => wipe σ2 vs = wipe σ vs ∧ tYes σ2 H2 fun b H3 =>
        if b = true then te σ2 H3 fun y H4 => ∃ acc, H4 D = some (.lst acc) ∧ acc.length < sizeLine ∧ Nx (upd H4 D (.lst (acc ++ [y]))) else Nx H3) := by
  refine lc_grow n hn I R h0 (fun i H hi _ => hi) (fun H _ => Nat.le_refl n) (fun i H x H' acc hi pI hD hl hR y Qn hq => ?_) hd
  obtain ⟨e1, e2⟩ := y
  subst e1 e2
  exact hs i H' acc hi pI hD hl hR Qn hq
/-- over a list that stays -/
theorem lc_growL {K : PySem.W.Frag} {a : Addr} {xs : List V} {g : TG} {te : TE} {vs : List Nat} {σ : L2.St} {H1 : Hp} {D : Addr} {Qd : Hp → Prop} (hn : xs.length < sizeLine) (I : Nat → Hp → Prop) (R : Nat → V → Prop) (h0 : I 0 (upd H1 D (.lst [])))
    (hl : ∀ i H, I i H → SqL K H a xs)
    (hs : ∀ i x H acc, xs[i]? = some x → I i H → H D = some (.lst acc) → acc.length = i → (∀ j y, acc[j]? = some y → R j y) → ∀ Qn : VK,
      (∀ y H4, R i y → H4 D = some (.lst acc) → I (i + 1) (upd H4 D (.lst (acc ++ [y]))) → Qn y H4) → g x (wipe σ vs) H fun σ2 H2 => wipe σ2 vs = wipe σ vs ∧ te σ2 H2 Qn)
    (hd : ∀ H acc, I xs.length H → H D = some (.lst acc) → acc.length = xs.length → (∀ i y, acc[i]? = some y → R i y) → Qd H) :
    ∃ W : Nat → Nat → Hp → Prop, (∃ m, W 0 m (upd H1 D (.lst []))) ∧ ∀ i m H, W i m H →
      ((Itl K a).stop i H ∧ Qd H) ∨ ((Itl K a).go i H ∧ ∃ Nx : Hp → Prop, (∀ H', Nx H' → ∃ m', m' < m ∧ W (i + 1) m' H') ∧ ∀ x H', (Itl K a).yld i H x H' → g x (wipe σ vs) H' fun σ2 H2 => wipe σ2 vs = wipe σ vs ∧ tYes σ2 H2 fun b H3 =>
        if b = true then te σ2 H3 fun y H4 => ∃ acc, H4 D = some (.lst acc) ∧ acc.length < sizeLine ∧ Nx (upd H4 D (.lst (acc ++ [y]))) else Nx H3) := by
  refine lc_grow xs.length hn I R h0 (fun i H hi p => ⟨xs, xs[i], hl i H p, List.getElem?_eq_getElem hi⟩) (fun H p => ⟨xs, hl _ H p, Nat.le_refl _⟩) (fun i H x H' acc hi pI hD hla hR y Qn hq => ?_) hd
  obtain ⟨e1, e2⟩ := y
  subst e1
  exact hs i x H' acc (e2 _ (hl i H' pI)) pI hD hla hR Qn hq
/-- over a tuple that stays -/
theorem lc_growT {K : PySem.W.Frag} {a : Addr} {xs : List V} {g : TG} {te : TE} {vs : List Nat} {σ : L2.St} {H1 : Hp} {D : Addr} {Qd : Hp → Prop} (hn : xs.length < sizeLine) (I : Nat → Hp → Prop) (R : Nat → V → Prop) (h0 : I 0 (upd H1 D (.lst [])))
    (hl : ∀ i H, I i H → SqT K H a xs)
    (hs : ∀ i x H acc, xs[i]? = some x → I i H → H D = some (.lst acc) → acc.length = i → (∀ j y, acc[j]? = some y → R j y) → ∀ Qn : VK,
      (∀ y H4, R i y → H4 D = some (.lst acc) → I (i + 1) (upd H4 D (.lst (acc ++ [y]))) → Qn y H4) → g x (wipe σ vs) H fun σ2 H2 => wipe σ2 vs = wipe σ vs ∧ te σ2 H2 Qn)
    (hd : ∀ H acc, I xs.length H → H D = some (.lst acc) → acc.length = xs.length → (∀ i y, acc[i]? = some y → R i y) → Qd H) :
    ∃ W : Nat → Nat → Hp → Prop, (∃ m, W 0 m (upd H1 D (.lst []))) ∧ ∀ i m H, W i m H →
      ((Itt K a).stop i H ∧ Qd H) ∨ ((Itt K a).go i H ∧ ∃ Nx : Hp → Prop, (∀ H', Nx H' → ∃ m', m' < m ∧ W (i + 1) m' H') ∧ ∀ x H', (Itt K a).yld i H x H' → g x (wipe σ vs) H' fun σ2 H2 => wipe σ2 vs = wipe σ vs ∧ tYes σ2 H2 fun b H3 =>
        if b = true then te σ2 H3 fun y H4 => ∃ acc, H4 D = some (.lst acc) ∧ acc.length < sizeLine ∧ Nx (upd H4 D (.lst (acc ++ [y]))) else Nx H3) := by
  refine lc_grow xs.length hn I R h0 (fun i H hi p => ⟨xs, xs[i], hl i H p, List.getElem?_eq_getElem hi⟩) (fun H p => ⟨xs, hl _ H p, Nat.le_refl _⟩) (fun i H x H' acc hi pI hD hla hR y Qn hq => ?_) hd
  obtain ⟨e1, e2⟩ := y
  subst e1
  exact hs i x H' acc (e2 _ (hl i H' pI)) pI hD hla hR Qn hq
/-- what is known of every member, as an equation of lists -/
theorem eq_map {acc : List V} {n : Nat} {f : Nat → V} (hl : acc.length = n) (h : ∀ i y, acc[i]? = some y → y = f i) : acc = (List.range n).map f := by
  refine List.ext_getElem? fun i => ?_
  by_cases hi : i < n
  · have e : acc[i]? = some acc[i] := List.getElem?_eq_getElem (by omega)
    rw [e, h i _ e]
    simp [hi]
  · have h1 : acc[i]? = none := List.getElem?_eq_none_iff.mpr (by omega)
    have h2 : ((List.range n).map f)[i]? = none := List.getElem?_eq_none_iff.mpr (by rw [List.length_map, List.length_range]; omega)
    rw [h1, h2]
end ZK

namespace EN.M
/-! ### falling products, binomials over all integers -/
def ff (n : Int) : Nat → Int
  | 0 => 1
  | k + 1 => ff n k * (n - k)
def fac : Nat → Int
  | 0 => 1
  | k + 1 => fac k * (k + 1)
theorem fac_pos : ∀ k, 0 < fac k
  | 0 => by decide
  | k + 1 => Int.mul_pos (fac_pos k) (by omega)
theorem ff_up (n : Int) : ∀ k, ff (n + 1) (k + 1) = (n + 1) * ff n k
  | 0 => by simp [ff]
  | k + 1 => by
    have ih := ff_up n k
    rw [ff, ih, ff, Int.mul_assoc]
    have e : n + 1 - ((k + 1 : Nat) : Int) = n - (k : Int) := by omega
    rw [e]
theorem ff_step (n : Int) (k : Nat) : ff (n + 1) (k + 1) = ff n (k + 1) + (k + 1) * ff n k := by
  rw [ff_up, show ff n (k + 1) = ff n k * (n - k) from rfl, Int.mul_comm (ff n k), ← Int.add_mul]
  have e : n - (k : Int) + ((k : Int) + 1) = n + 1 := by omega
  rw [e]
theorem ff_zero : ∀ k, ff 0 (k + 1) = 0
  | 0 => by simp [ff]
  | k + 1 => by rw [ff, ff_zero k, Int.zero_mul]
/-- up and down from 0 -/
theorem int_ind {p : Int → Prop} (h0 : p 0) (up : ∀ n, p n → p (n + 1)) (down : ∀ n, p (n + 1) → p n) : ∀ n, p n := by
  have a : ∀ m : Nat, p (m : Int) := fun m => by
    induction m with
    | zero => exact h0
    | succ m ih => exact up _ ih
  have b : ∀ m : Nat, p (-(m : Int)) := fun m => by
    induction m with
    | zero => exact h0
    | succ m ih =>
      refine down _ ?_
      have e : -((m + 1 : Nat) : Int) + 1 = -(m : Int) := by omega
      rw [e]
      exact ih
  intro n
  by_cases h : 0 ≤ n
  · have := a n.toNat
    rwa [Int.toNat_of_nonneg h] at this
  · have := b (-n).toNat
    rwa [Int.toNat_of_nonneg (by omega), Int.neg_neg] at this
theorem dvd_ff : ∀ (k : Nat) (n : Int), fac k ∣ ff n k
  | 0, n => ⟨1, by simp [ff, fac]⟩
  | k + 1, n => by
    have part : ∀ n : Int, fac (k + 1) ∣ (k + 1) * ff n k := fun n => by
      obtain ⟨q, e⟩ := dvd_ff k n
      exact ⟨q, by rw [e, fac, ← Int.mul_assoc, Int.mul_comm ((k : Int) + 1)]⟩
    refine int_ind (p := fun n => fac (k + 1) ∣ ff n (k + 1)) ⟨0, by rw [ff_zero, Int.mul_zero]⟩ (fun n h => ?_) (fun n h => ?_) n
    · rw [ff_step]
      exact Int.dvd_add h (part n)
    · rw [ff_step] at h
      exact (Int.dvd_add_left (part n)).mp h
def C (n : Int) (k : Nat) : Int := ff n k / fac k
theorem C_mul (n : Int) (k : Nat) : C n k * fac k = ff n k := Int.ediv_mul_cancel (dvd_ff k n)
theorem fac_cancel {k : Nat} {a b : Int} (h : a * fac k = b * fac k) : a = b := Int.eq_of_mul_eq_mul_right (Int.ne_of_gt (fac_pos k)) h
theorem C_zero (n : Int) : C n 0 = 1 := by simp [C, ff, fac]
theorem C_rec (n : Int) (k : Nat) : C n (k + 1) * (k + 1) = C n k * (n - k) := by
  refine fac_cancel (k := k) ?_
  rw [Int.mul_assoc, Int.mul_comm ((k : Int) + 1), show fac k * ((k : Int) + 1) = fac (k + 1) from rfl, C_mul, ff, ← C_mul n k, Int.mul_right_comm]
theorem C_next (n : Int) (k : Nat) : C n k * (n - k) / ((k : Int) + 1) = C n (k + 1) := by
  rw [← C_rec]
  exact Int.mul_ediv_cancel _ (by omega)
theorem pascal (n : Int) (k : Nat) : C (n + 1) (k + 1) = C n (k + 1) + C n k := by
  refine fac_cancel (k := k + 1) ?_
  rw [Int.add_mul, C_mul, C_mul, ff_step, show fac (k + 1) = fac k * ((k : Int) + 1) from rfl, ← Int.mul_assoc, C_mul, Int.mul_comm (ff n k)]
theorem C_at0 (k : Nat) : C 0 (k + 1) = 0 := by rw [C, ff_zero, Int.zero_ediv]
/-! ### rows -/
def valF : Nat → List Int → Int → Int
  | _, [], _ => 0
  | j, a :: r, n => a * C n j + valF (j + 1) r n
def val (r : List Int) (n : Int) : Int := valF 0 r n
theorem valF_step : ∀ (r : List Int) (j : Nat) (n : Int), valF (j + 1) r (n + 1) = valF (j + 1) r n + valF j r n
  | [], j, n => rfl
  | a :: r, j, n => by
    rw [valF, valF, valF, valF_step r (j + 1) n, pascal, Int.mul_add]
    omega
theorem valF_at0 : ∀ (r : List Int) (j : Nat), valF (j + 1) r 0 = 0
  | [], _ => rfl
  | a :: r, j => by rw [valF, C_at0, Int.mul_zero, valF_at0 r (j + 1), Int.zero_add]
theorem val_cons (a : Int) (r : List Int) (n : Int) : val (a :: r) n = a + valF 1 r n := by
  show a * C n 0 + valF 1 r n = _
  rw [C_zero, Int.mul_one]
theorem valF1_step (r : List Int) (n : Int) : valF 1 r (n + 1) = valF 1 r n + val r n := valF_step r 0 n
/-! ### through values -/
def diffs : List Int → List Int
  | a :: b :: r => (b - a) :: diffs (b :: r)
  | _ => []
theorem diffs_len : ∀ l : List Int, (diffs l).length = l.length - 1
  | [] => rfl
  | [_] => rfl
  | a :: b :: r => by
    have ih := diffs_len (b :: r)
    rw [diffs, List.length_cons, ih]
    simp
theorem diffs_get : ∀ (l : List Int) (k : Nat) (x y : Int), l[k]? = some x → l[k + 1]? = some y → (diffs l)[k]? = some (y - x)
  | [], k, x, y, h, _ => by simp at h
  | [a], k, x, y, h, h2 => by simp at h2
  | a :: b :: r, 0, x, y, h, h2 => by
    simp at h h2
    simp [diffs, h, h2]
  | a :: b :: r, k + 1, x, y, h, h2 => by
    have ih := diffs_get (b :: r) k x y (by simpa using h) (by simpa using h2)
    simpa [diffs] using ih
def thrN : Nat → List Int → List Int
  | m + 1, a :: r => a :: thrN m (diffs (a :: r))
  | _, _ => []
def thr (l : List Int) : List Int := thrN l.length l
theorem thr_nil : thr [] = [] := rfl
theorem thr_cons (a : Int) (r : List Int) : thr (a :: r) = a :: thr (diffs (a :: r)) := by
  show a :: thrN r.length (diffs (a :: r)) = a :: thrN (diffs (a :: r)).length (diffs (a :: r))
  rw [diffs_len]
  rfl
theorem thr_len (l : List Int) : (thr l).length = l.length := by
  have h : ∀ m (l : List Int), l.length = m → (thr l).length = m := by
    intro m
    induction m with
    | zero => intro l h; cases l with
      | nil => rfl
      | cons a r => simp at h
    | succ m ih => intro l h; cases l with
      | nil => simp at h
      | cons a r =>
        rw [thr_cons, List.length_cons, ih _ (by rw [diffs_len, h]; rfl)]
  exact h _ l rfl
theorem thr_val (l : List Int) : ∀ k : Nat, k < l.length → l[k]? = some (val (thr l) (k : Int)) := by
  have h : ∀ m (l : List Int), l.length = m → ∀ k : Nat, k < m → l[k]? = some (val (thr l) (k : Int)) := by
    intro m
    induction m with
    | zero => intro l h k hk; omega
    | succ m ih => intro l h; cases l with
      | nil => simp at h
      | cons a r =>
        intro k
        induction k with
        | zero =>
          intro _
          rw [thr_cons, val_cons, show ((0 : Nat) : Int) = 0 from rfl, valF_at0, Int.add_zero]
          rfl
        | succ k ihk =>
          intro hk
          have h1 := ihk (by omega)
          have hd := ih (diffs (a :: r)) (by rw [diffs_len, h]; rfl) k (by omega)
          obtain ⟨y, hy⟩ : ∃ y, (a :: r)[k + 1]? = some y := ⟨_, List.getElem?_eq_getElem (by omega)⟩
          have h2 := diffs_get _ k _ _ h1 hy
          rw [h2] at hd
          rw [hy]
          have e := Option.some.inj hd
          rw [thr_cons, val_cons] at e ⊢
          rw [show ((k + 1 : Nat) : Int) = (k : Int) + 1 from rfl, valF1_step, ← e]
          congr 1
          omega
  exact h _ l rfl
theorem row_unique : ∀ (r r' : List Int), r.length = r'.length → (∀ k : Nat, k < r.length → val r (k : Int) = val r' (k : Int)) → r = r'
  | [], [], _, _ => rfl
  | [], _ :: _, h, _ => by simp at h
  | _ :: _, [], h, _ => by simp at h
  | a :: r, b :: s, h, hv => by
    have h0 := hv 0 (by simp)
    rw [val_cons, val_cons, show ((0 : Nat) : Int) = 0 from rfl, valF_at0, valF_at0, Int.add_zero, Int.add_zero] at h0
    subst h0
    have hl : r.length = s.length := by simpa using h
    congr 1
    refine row_unique r s hl fun k hk => ?_
    have h1 := hv k (by rw [List.length_cons]; omega)
    have h2 := hv (k + 1) (by rw [List.length_cons]; omega)
    rw [val_cons, val_cons] at h1 h2
    rw [show ((k + 1 : Nat) : Int) = (k : Int) + 1 from rfl, valF1_step, valF1_step] at h2
    omega
def vals (f : Int → Int) (m : Nat) : List Int := (List.range m).map fun k : Nat => f (k : Int)
theorem vals_len (f : Int → Int) (m : Nat) : (vals f m).length = m := by simp [vals]
theorem vals_get (f : Int → Int) (m k : Nat) (h : k < m) : (vals f m)[k]? = some (f (k : Int)) := by
  simp [vals, h]
theorem thr_vals (r : List Int) : thr (vals (val r) r.length) = r := by
  refine row_unique _ _ (by rw [thr_len, vals_len]) fun k hk => ?_
  rw [thr_len, vals_len] at hk
  have h := thr_val (vals (val r) r.length) k (by rw [vals_len]; exact hk)
  rw [vals_get _ _ _ hk] at h
  exact (Option.some.inj h).symm
theorem vals_congr {f g : Int → Int} {m : Nat} (h : ∀ k : Nat, k < m → f (k : Int) = g (k : Int)) : vals f m = vals g m := by
  unfold vals
  exact List.map_congr_left fun k hk => h k (List.mem_range.mp hk)
/-! ### ahead -/
def ah : List Int → Int → List Int
  | [], _ => []
  | a :: r, k => val (a :: r) k :: ah r k
theorem ah_len (k : Int) : ∀ r : List Int, (ah r k).length = r.length
  | [] => rfl
  | a :: r => by rw [ah, List.length_cons, ah_len k r, List.length_cons]
theorem ah_val (k : Int) : ∀ (r : List Int) (n : Int), val (ah r k) n = val r (n + k)
  | [], n => rfl
  | a :: r, n => by
    have ih := ah_val k r
    rw [ah, val_cons, val_cons, val_cons]
    refine int_ind (p := fun n => a + valF 1 r k + valF 1 (ah r k) n = a + valF 1 r (n + k)) ?_ (fun n h => ?_) (fun n h => ?_) n
    · rw [valF_at0, Int.zero_add, Int.add_zero]
    · rw [valF1_step, ih, show n + 1 + k = n + k + 1 by omega, valF1_step]
      omega
    · rw [valF1_step, ih, show n + 1 + k = n + k + 1 by omega, valF1_step] at h
      omega
theorem ah_get (k : Int) : ∀ (r : List Int) (j : Nat), j < r.length → (ah r k)[j]? = some (val (r.drop j) k)
  | [], j, h => by simp at h
  | a :: r, 0, h => rfl
  | a :: r, j + 1, h => by
    have ih := ah_get k r j (by simpa using h)
    simpa [ah] using ih
theorem ah_eq (r : List Int) (k : Int) : (List.range r.length).map (fun j => val (r.drop j) k) = ah r k := by
  refine List.ext_getElem? fun j => ?_
  by_cases h : j < r.length
  · rw [ah_get k r j h]
    simp [h]
  · have h1 : (ah r k)[j]? = none := List.getElem?_eq_none_iff.mpr (by rw [ah_len]; omega)
    rw [h1]
    simp; omega
/-! ### without the zeros at the end -/
def cutN (r : List Int) : Nat → Nat
  | 0 => 0
  | e + 1 => if r[e]? = some 0 then cutN r e else e + 1
def cut (r : List Int) : List Int := r.take (cutN r r.length)
theorem cutN_le (r : List Int) : ∀ e, cutN r e ≤ e
  | 0 => Nat.le_refl _
  | e + 1 => by
    unfold cutN
    split
    · exact Nat.le_succ_of_le (cutN_le r e)
    · exact Nat.le_refl _
theorem valF_append : ∀ (r s : List Int) (j : Nat) (n : Int), valF j (r ++ s) n = valF j r n + valF (j + r.length) s n
  | [], s, j, n => by simp [valF]
  | a :: r, s, j, n => by
    rw [List.cons_append, valF, valF, valF_append r s (j + 1) n, List.length_cons, show j + 1 + r.length = j + (r.length + 1) by omega]
    omega
theorem val_take (r : List Int) (n : Int) : ∀ e, e ≤ r.length → val (r.take (cutN r e)) n = val (r.take e) n
  | 0, _ => rfl
  | e + 1, h => by
    unfold cutN
    split
    · rename_i z
      rw [val_take r n e (by omega)]
      have hx : e < r.length := by omega
      rw [List.take_succ_eq_append_getElem hx, val, val, valF_append]
      have e0 : r[e] = 0 := by
        rw [List.getElem?_eq_getElem hx] at z
        exact Option.some.inj z
      rw [e0]
      simp [valF]
    · rfl
theorem cut_val (r : List Int) (n : Int) : val (cut r) n = val r n := by
  rw [cut, val_take r n _ (Nat.le_refl _), List.take_length]
/-! ### the falling product as a row -/
def fallRow (m : Nat) : List Int := List.replicate m 0 ++ [fac m]
theorem valF_zeros (n : Int) : ∀ (m j : Nat), valF j (List.replicate m 0) n = 0
  | 0, _ => rfl
  | m + 1, j => by rw [List.replicate_succ, valF, valF_zeros n m (j + 1), Int.zero_mul, Int.zero_add]
theorem fall_val (m : Nat) (n : Int) : val (fallRow m) n = ff n m := by
  rw [fallRow, val, valF_append, valF_zeros, List.length_replicate]
  show 0 + (fac m * C n (0 + m) + 0) = _
  rw [Nat.zero_add, Int.zero_add, Int.add_zero, Int.mul_comm, C_mul]
theorem fall_len (m : Nat) : (fallRow m).length = m + 1 := by simp [fallRow]
/-! ### what the law wishes -/
theorem through_law (vs : List Int) (o : Int) : cut (ah (thr vs) (-o)) = cut (thr (vals (fun n => val (cut (thr vs)) (n - o)) vs.length)) := by
  have h : vals (fun n => val (cut (thr vs)) (n - o)) vs.length = vals (val (ah (thr vs) (-o))) (ah (thr vs) (-o)).length := by
    rw [ah_len, thr_len]
    refine vals_congr fun k _ => ?_
    rw [ah_val, cut_val]
    rfl
  rw [h, thr_vals]
theorem through_back (vs : List Int) (o : Int) (k : Nat) (h : k < vs.length) : vs[k]? = some (val (cut (ah (thr vs) (-o))) (o + k)) := by
  rw [cut_val, ah_val, show o + (k : Int) + -o = (k : Int) by omega]
  exact thr_val vs k h
theorem falling_law (m : Nat) (o : Int) : cut (ah (fallRow m) (-o)) = cut (thr (vals (fun n => ff (n - o) m) (m + 1))) := by
  have h : vals (fun n => ff (n - o) m) (m + 1) = vals (val (ah (fallRow m) (-o))) (ah (fallRow m) (-o)).length := by
    rw [ah_len, fall_len]
    refine vals_congr fun k _ => ?_
    rw [ah_val, fall_val]
    rfl
  rw [h, thr_vals]
end EN.M

namespace EN
open PySem L2 PyProof.Rows
def top (i : Nat) : Stmt := PySem.Challenge.pw_everyname_k18_whole_sizes_compared_for_e.main.body.getD i (.Pass ⟨0, 0, 0, 0⟩)

/-! ### a def by its module name -/
/-- the module's x is a def that keeps the promise sp by level k -/
structure Has (P : Program) (w : World) (K : PySem.W.Frag) (mg : Str → Option Value) (base : Heap) (k : Nat) (x : Str) (ps : List Str) (sp : Sp) : Prop where
  ex : ∃ (f : Addr) (fd : FuncData), FnOk P w K mg base CX0 k f fd ps sp ∧ mg x = some (.ref f) ∧ PySem.W.keepIn K (.ref f) = true ∧ Binds K fd ps []
section
variable {X : Cx} {k : Nat} {x : Str} {ps : List Str} {sp : Sp} {p pos : Pos} {e : Expr} {es : List Expr} {t : TA}
theorem pe_has (O : Has X.prog X.w X.K X.mg X.base k x ps sp) (hr : Room k X.A) (ha : PA X (e :: es) t) (hg : Gl X x := by rfl) (hdb : (x == ("__debug__" : Str)) = false := by decide)
    (he : starEach (e :: es) X.env = (false, eval e X.env) :: starEach es X.env := by rfl) (hpl : (backTo pos (starEach es X.env)).any (·.1) = false := by rfl) :
    PE X (.Call (.Name x p) (e :: es) [] pos) (tCall sp [] E0 t) := by
  obtain ⟨f, fd, F, hm, hk, hb⟩ := O.ex
  exact pe_call F hr hg hm hk hb .nil pass0 ha hdb he hpl
end

/-! ### built-ins whose reading names the written part -/
def rLenQ (K : PySem.W.Frag) : List V → Hp → VK → Prop := fun xs H Q => ∃ p ys, xs = [.ref p] ∧ (SqL K H p ys ∨ SqT K H p ys) ∧ Q (.int ys.length) H
theorem c_len {X : Cx} : CallR X (.builtin "len") (rLenQ X.K) := call_len_seq
def rListQ (K : PySem.W.Frag) : List V → Hp → VK → Prop := fun xs H Q => ∃ p ys, xs = [.ref p] ∧ (SqL K H p ys ∨ SqT K H p ys) ∧ ∀ l, H l = none → Q (.ref l) (upd H l (.lst ys))
theorem c_list {X : Cx} : CallR X (.type "list") (rListQ X.K) := call_list_of
def rTupQ (K : PySem.W.Frag) : List V → Hp → VK → Prop := fun xs H Q => ∃ p ys, xs = [.ref p] ∧ ((SqL K H p ys ∧ ∀ l, H l = none → Q (.ref l) (upd H l (.tup ys))) ∨ (SqT K H p ys ∧ Q (.ref p) H))
theorem c_tuple {X : Cx} : CallR X (.type "tuple") (rTupQ X.K) := call_tuple_of

/-! ### heaps -/
/-- what stood stands, but at p -/
def But (p : Addr) (H H' : Hp) : Prop := ∀ b o, H b = some o → b ≠ p → H' b = some o
theorem But.refl (p : Addr) (H : Hp) : But p H H := fun _ _ h _ => h
theorem But.trans {p : Addr} {H H1 H2 : Hp} (a : But p H H1) (b : But p H1 H2) : But p H H2 := fun c o h n => b c o (a c o h n) n
theorem But.upd {p : Addr} {H H1 : Hp} (a : But p H H1) (u : HO) : But p H (upd H1 p u) := fun c o h n => by
  rw [upd_ne n]; exact a c o h n
theorem But.new {p q : Addr} {H H1 : Hp} (a : But p H H1) (u : HO) (hq : H1 q = none) : But p H (L2.upd H1 q u) := fun c o h n => by
  rw [upd_ne (ne_of_none (a c o h n) hq)]; exact a c o h n
theorem same_but {p : Addr} {H H' : Hp} (a : Same H H') : But p H H' := fun c o h _ => a c o h
theorem same_new {q : Addr} {H H1 : Hp} (a : Same H H1) (u : HO) (hq : H1 q = none) : Same H (upd H1 q u) := fun c o h => by
  rw [upd_ne (ne_of_none (a c o h) hq)]; exact a c o h

/-- an object that came later is changed -/
theorem same_but_new {q : Addr} {H H1 : Hp} {u : HO} (a : Same H H1) (hq : H q = none) : Same H (upd H1 q u) := fun c o h => by
  rw [upd_ne (ne_of_none h hq)]; exact a c o h
theorem but_new {p q : Addr} {H H1 : Hp} {u : HO} (a : But p H H1) (hq : H q = none) : But p H (upd H1 q u) := fun c o h n => by
  rw [upd_ne (ne_of_none h hq)]; exact a c o h n

/-! ### the pen -/
abbrev kC : Key := Sum.inr "cells"
abbrev kB : Key := Sum.inr "begun"
abbrev kR : Key := Sum.inr "rest"
def penO (c : Addr) (b r : Int) : HO := .dK [(kC, .ref c), (kB, .int b), (kR, .int r)]
theorem pen_c (c : Addr) (b r : Int) : valV [(kC, V.ref c), (kB, .int b), (kR, .int r)] kC = some (.ref c) := by simp [valV]
theorem pen_b (c : Addr) (b r : Int) : valV [(kC, V.ref c), (kB, .int b), (kR, .int r)] kB = some (.int b) := by
  rw [valV_neg (show ¬ (kC = kB) by decide +kernel), valV_pos rfl]
theorem pen_r (c : Addr) (b r : Int) : valV [(kC, V.ref c), (kB, .int b), (kR, .int r)] kR = some (.int r) := by
  rw [valV_neg (show ¬ (kC = kR) by decide +kernel), valV_neg (show ¬ (kB = kR) by decide +kernel), valV_pos rfl]
theorem pen_pb (c : Addr) (b r : Int) (y : V) : putK [(kC, V.ref c), (kB, .int b), (kR, .int r)] kB y = [(kC, V.ref c), (kB, y), (kR, .int r)] := by
  have h1 : ¬ (kC = kB) := by decide +kernel
  have h2 : ¬ (kR = kB) := by decide +kernel
  unfold putK
  simp [h1, h2]
theorem pen_pr (c : Addr) (b r : Int) (y : V) : putK [(kC, V.ref c), (kB, .int b), (kR, .int r)] kR y = [(kC, V.ref c), (kB, .int b), (kR, y)] := by
  have h1 : ¬ (kC = kR) := by decide +kernel
  have h2 : ¬ (kB = kR) := by decide +kernel
  unfold putK
  simp [h1, h2]
/-- the pen at p over the cells ns at c; at most B cells were begun -/
structure Pen (H : Hp) (p c : Addr) (ns : List Int) (B : Nat) : Prop where
  at_ : ∃ b r : Int, H p = some (penO c b r) ∧ 0 ≤ b ∧ b ≤ B ∧ 0 ≤ r
  cells : H c = some (.lst (ns.map V.int))
  few : ns.length ≤ 63
  small : B ≤ 1000000000
theorem Pen.ne {H : Hp} {p c : Addr} {ns : List Int} {B : Nat} (h : Pen H p c ns B) : c ≠ p := by
  obtain ⟨b, r, e, _⟩ := h.at_
  exact ne_of h.cells e (by intro z; cases z)
theorem Pen.more {H : Hp} {p c : Addr} {ns : List Int} {B B' : Nat} (h : Pen H p c ns B) (hb : B ≤ B') (hs : B' ≤ 1000000000) : Pen H p c ns B' := by
  obtain ⟨b, r, e, h0, h1, h2⟩ := h.at_
  exact ⟨⟨b, r, e, h0, by omega, h2⟩, h.cells, h.few, hs⟩
/-- other objects may come, or change -/
theorem Pen.stay {H H' : Hp} {p c : Addr} {ns : List Int} {B : Nat} (h : Pen H p c ns B) (hp : H' p = H p) (hc : H' c = H c) : Pen H' p c ns B := by
  obtain ⟨b, r, e, z⟩ := h.at_
  exact ⟨⟨b, r, hp.trans e, z⟩, hc.trans h.cells, h.few, h.small⟩
theorem Pen.same {H H' : Hp} {p c : Addr} {ns : List Int} {B : Nat} (h : Pen H p c ns B) (s : Same H H') : Pen H' p c ns B := by
  obtain ⟨b, r, e, z⟩ := h.at_
  exact ⟨⟨b, r, s _ _ e, z⟩, s _ _ h.cells, h.few, h.small⟩
theorem Pen.new {H : Hp} {p c q : Addr} {ns : List Int} {B : Nat} {u : HO} (h : Pen H p c ns B) (hq : H q = none) : Pen (upd H q u) p c ns B := by
  obtain ⟨b, r, e, z⟩ := h.at_
  exact h.stay (upd_ne (ne_of_none e hq)) (upd_ne (ne_of_none h.cells hq))
theorem Pen.nep {H : Hp} {p c q : Addr} {ns : List Int} {B : Nat} (h : Pen H p c ns B) (hq : H q = none) : q ≠ p := by
  obtain ⟨b, r, e, z⟩ := h.at_
  exact (ne_of_none e hq).symm
theorem Pen.nec {H : Hp} {p c q : Addr} {ns : List Int} {B : Nat} (h : Pen H p c ns B) (hq : H q = none) : q ≠ c := (ne_of_none h.cells hq).symm

/-! ### the promises of the pen -/
def spPen (K : PySem.W.Frag) : Sp := fun vs H Q _ => ∃ (a : Addr) (ns : List Int), vs = [.ref a] ∧ SqL K H a (ns.map V.int) ∧ ns.length ≤ 63 ∧
  ∀ (p c : Addr) (H' : Hp), Same H H' → H p = none → H c = none → Pen H' p c ns 0 → Q (.ref p) H'
def spDraw : Sp := fun vs H Q _ => ∃ (p c : Addr) (ns : List Int) (B : Nat) (m : Int), vs = [.ref p, .int m] ∧ Pen H p c ns B ∧ B < 1000000000 ∧ 0 < m ∧ m.natAbs < 2 ^ 8000 ∧
  ∀ (d : Int) (H' : Hp), 0 ≤ d → d < m → Pen H' p c ns (B + 1) → But p H H' → Q (.int d) H'
/-- what the walk asks of the built-in names -/
structure Blt (mg : Str → Option Value) : Prop where
  list_ : mg "list" = none
  len_ : mg "len" = none
  int_ : mg "int" = none
  abs_ : mg "abs" = none
  range_ : mg "range" = none
  tuple_ : mg "tuple" = none
  isinstance_ : mg "isinstance" = none
  bool_ : mg "bool" = none
  all_ : mg "all" = none
  sum_ : mg "sum" = none
  zip_ : mg "zip" = none
  min_ : mg "min" = none
  sorted_ : mg "sorted" = none
  any_ : mg "any" = none
  set_ : mg "set" = none
  max_ : mg "max" = none
  str_ : mg "str" = none
  enumerate_ : mg "enumerate" = none
  reversed_ : mg "reversed" = none
  dict_ : mg "dict" = none
end EN

namespace EN
open PySem L2 PyProof.Rows
section
variable {P : Program} {w : World} {K : PySem.W.Frag} {mg : Str → Option Value} {base : Heap} {f : Addr} {fd : FuncData}
theorem sqT_same {H H' : Hp} {a : Addr} {xs : List V} (s : Same H H') (h : SqT K H a xs) : SqT K H' a xs := ZK.SqK.same (k := .t) s h
theorem sqL_but {H H' : Hp} {p a : Addr} {xs : List V} (s : But p H H') (np : ∀ o, H p = some o → o ≠ .lst xs ∧ ∀ u, o ≠ .frz u (.lst xs)) (h : SqL K H a xs) : SqL K H' a xs := by
  rcases h with (h | ⟨o, h⟩) | h
  · refine .inl (.inl (s _ _ h fun e => ?_))
    subst e
    exact (np _ h).1 rfl
  · refine .inl (.inr ⟨o, s _ _ h fun e => ?_⟩)
    subst e
    exact (np _ h).2 o rfl
  · exact .inr h
theorem sqT_but {H H' : Hp} {p a : Addr} {xs : List V} (s : But p H H') (np : ∀ o, H p = some o → o ≠ .tup xs ∧ ∀ u, o ≠ .frz u (.tup xs)) (h : SqT K H a xs) : SqT K H' a xs := by
  rcases h with (h | ⟨o, h⟩) | h
  · refine .inl (.inl (s _ _ h fun e => ?_))
    subst e
    exact (np _ h).1 rfl
  · refine .inl (.inr ⟨o, s _ _ h fun e => ?_⟩)
    subst e
    exact (np _ h).2 o rfl
  · exact .inr h
theorem Pen.sqL {H H' : Hp} {p c a : Addr} {ns : List Int} {B : Nat} {xs : List V} (P : Pen H p c ns B) (s : But p H H') (h : SqL K H a xs) : SqL K H' a xs := by
  obtain ⟨b, r, e, _⟩ := P.at_
  exact sqL_but s (fun o z => by rw [e] at z; cases z; exact ⟨(by intro q; cases q), (by intro u q; cases q)⟩) h
theorem Pen.sqT {H H' : Hp} {p c a : Addr} {ns : List Int} {B : Nat} {xs : List V} (P : Pen H p c ns B) (s : But p H H') (h : SqT K H a xs) : SqT K H' a xs := by
  obtain ⟨b, r, e, _⟩ := P.at_
  exact sqT_but s (fun o z => by rw [e] at z; cases z; exact ⟨(by intro q; cases q), (by intro u q; cases q)⟩) h
theorem tyx_lst {H : Hp} {a : Addr} {xs : List V} (h : SqL K H a xs) : TyX K H (.ref a) (.type "list") := by
  rcases h with (h | ⟨o, h⟩) | ⟨o, its, n, e, c, _⟩
  · exact .base (.lst h)
  · exact .base (.frz h)
  · exact .kList e c
theorem tyx_tup {H : Hp} {a : Addr} {xs : List V} (h : SqT K H a xs) : TyX K H (.ref a) (.type "tuple") := by
  rcases h with (h | ⟨o, h⟩) | ⟨o, its, n, e, c, _⟩
  · exact .base (.tup h)
  · exact .fTuple h
  · exact .kTuple e c
theorem look1 {f : Str} {v : V} : List.lookup f [(f, v)] = some v := by simp [List.lookup]
theorem get_int {r : List Int} {e : Nat} (h : e < r.length) : (r.map V.int)[e]? = some (.int (r.getD e 0)) ∧ r[e]? = some (r.getD e 0) := by
  rw [List.getElem?_map, List.getElem?_eq_getElem h, List.getD_eq_getElem?_getD, List.getElem?_eq_getElem h]
  exact ⟨rfl, rfl⟩
theorem sqT_upd {H : Hp} {t x C dx : Addr} {fs : List (Str × V)} {xs : List V} {o : HO} (h : SqT K H t xs) (hx : H x = some (.ins C dx fs)) : SqT K (upd H x o) t xs :=
  sqT_but (p := x) (fun b u e n => by rw [upd_ne n]; exact e) (fun u e => by rw [hx] at e; cases e; exact ⟨(by intro q; cases q), (by intro u q; cases q)⟩) h
theorem all_true (n : Nat) : ((List.range n).map fun _ => true).all id = true := by simp
end
end EN

namespace EN
open PySem L2 PyProof.Rows
section
variable {P : Program} {w : World} {K : PySem.W.Frag} {mg : Str → Option Value} {base : Heap} {f : Addr} {fd : FuncData}
abbrev s_pen : Stmt := top 36
abbrev N_pen : List Str := ["_law_script"]
theorem sc_pen : FnScope N_pen ["_law_script"] (defScope s_pen) := ⟨rfl, rfl, rfl, by decide +kernel, rfl, by decide +kernel, by decide +kernel⟩

theorem cut63 {xs : List V} (h : xs.length ≤ 63) : cutV xs none (some 63) = xs := by
  unfold cutV
  rw [show HT.sIx xs.length 0 none = 0 from rfl, show (63 : Int) = ((63 : Nat) : Int) from rfl, HT.sIx_nat, List.drop_zero, Nat.sub_zero, Nat.min_eq_right h, List.take_length]
theorem pen_mk (c : Addr) : mergeK [] [(kC, V.ref c), (kB, .int 0), (kR, .int 0)] = [(kC, V.ref c), (kB, .int 0), (kR, .int 0)] := by
  have h1 : ¬ (kC = kB) := by decide +kernel
  have h2 : ¬ (kC = kR) := by decide +kernel
  have h3 : ¬ (kB = kR) := by decide +kernel
  simp [mergeK, putK, h1, h2, h3]
theorem ok_pen (F : Fun K "_law_pen" "_law_pen" s_pen f fd) (T : Blt mg) : FnOk P w K mg base CX0 1 f fd ["_law_script"] (spPen K) := by
  refine F.ok sc_pen (fun vs H Q E h => ?_) (fun cdv A outer s H vs Q E hr h => ?_)
  · obtain ⟨a, ns, rfl, _⟩ := h
    rfl
  · obtain ⟨a, ns, rfl, hS, hl, k⟩ := h
    have hu := hu_of hr
    refine ⟨_, (pss_one (ps_ret (pe_disp (pps_cons pe_str (pe_callTy (show CallR _ _ (rListQ K) from c_list) (by rfl) T.list_ (by decide +kernel) (pa_cons (pe_slice (show SlR _ (rSlL K) from sl_list) (pv 0) po_none (po_some pe_int)) pa_nil)) (pps_cons pe_str pe_int (pps_cons pe_str pe_int pps_nil))) (by rfl) (by rfl) (fun z => by cases z) (by decide)))), ?_⟩
    intro p hp
    have s1 : Same H (upd H p (.dK [])) := same_new (Same.refl H) _ hp
    refine ⟨_, rfl, _, rfl, a, _, rfl, s1.seq hS, fun q hq => ?_⟩
    refine ⟨q, _, rfl, .inl (SqL.of upd_same), fun c hc => ?_⟩
    have ec := cut63 (xs := ns.map V.int) (by rw [List.length_map]; exact hl)
    rw [ec] at hc ⊢
    have npq : p ≠ q := ne_of_none upd_same hq
    have npc : p ≠ c := ne_of_none (by rw [upd_ne npq]; exact upd_same) hc
    have nqc : q ≠ c := ne_of_none upd_same hc
    refine ⟨by rw [upd_ne npc, upd_ne npq, upd_same], [(kC, V.ref c), (kB, .int 0), (kR, .int 0)], rfl, (by show 3 ≤ 15; decide), ?_⟩
    rw [pen_mk]
    refine k p c _ (fun b o e => ?_) hp ?_ ⟨⟨0, 0, upd_same, Int.le_refl _, by decide, Int.le_refl _⟩, by rw [upd_ne npc.symm, upd_same], hl, by decide⟩
    · have nb : b ≠ p := ne_of_none e hp
      have e1 := s1 b o e
      rw [upd_ne nb]
      exact same_new (same_new (Same.refl _) _ hq) _ hc b o e1
    · have e1 : (upd H p (HO.dK [])) c = none := (same_new (Same.refl _) _ hq).free hc
      exact s1.free e1
end
end EN

namespace EN
open PySem L2 PyProof.Rows
section
variable {P : Program} {w : World} {K : PySem.W.Frag} {mg : Str → Option Value} {base : Heap} {f : Addr} {fd : FuncData}
abbrev s_draw : Stmt := top 37
abbrev N_draw : List Str := ["_law_pen_here", "_law_many", "_law_digit", "_law_spot", "_law_size", "_law_cell", "_law_stir"]
theorem sc_draw : FnScope N_draw ["_law_pen_here", "_law_many"] (defScope s_draw) := ⟨rfl, rfl, rfl, by decide +kernel, rfl, by decide +kernel, by decide +kernel⟩

/-! sizes of numbers -/
theorem lt_wide {x : Int} {n : Nat} (h : x.natAbs < 2 ^ n) : x.natAbs.log2 < n + 1 := by
  by_cases z : x.natAbs = 0
  · rw [z]
    exact Nat.succ_pos n
  · exact Nat.lt_succ_of_lt ((Nat.log2_lt z).mpr h)
theorem mulW {i j : Int} (a b : Nat) (ha : i.natAbs < 2 ^ a) (hb : j.natAbs < 2 ^ b) (h : a + b ≤ 999990) : CMulW i j := by
  have h1 := lt_wide ha
  have h2 := lt_wide hb
  show i.natAbs.log2 + j.natAbs.log2 < 1000000
  omega
theorem divW {i j : Int} (b : Nat) (h : 0 < j) (hb : j.natAbs < 2 ^ b) (h9 : b ≤ 8990) : CDivW i j := ⟨h, by have := lt_wide hb; omega⟩
theorem pm {x y : Int} (h : 0 < y) : (fun _ j : Int => 0 < j) x y := h
theorem add_small {x : Int} (h : x.natAbs < 2 ^ 32) : (x + 32771).natAbs < 2 ^ 33 := by omega
theorem at_some {xs : List Int} {i : Int} (h0 : 0 ≤ i) (h1 : i < xs.length) : ∃ z, atI (xs.map V.int) i = some (V.int z) := by
  obtain ⟨n, rfl⟩ := Int.eq_ofNat_of_zero_le h0
  have hn : n < xs.length := by omega
  exact ⟨xs[n], atI_nat (by rw [List.getElem?_map, List.getElem?_eq_getElem hn]; rfl)⟩
theorem ok_draw (F : Fun K "_law_draw" "_law_draw" s_draw f fd) (T : Blt mg) : FnOk P w K mg base CX0 1 f fd ["_law_pen_here", "_law_many"] spDraw := by
  refine F.ok sc_draw (fun vs H Q E h => ?_) (fun cdv A outer s H vs Q E hr h => ?_)
  · obtain ⟨p, c, ns, B, m, rfl, _⟩ := h
    rfl
  · obtain ⟨p, c, ns, B, m, rfl, hP, hB, hm, hmb, k⟩ := h
    have hu := hu_of hr
    obtain ⟨b, r, e, hb0, hbB, hr0⟩ := hP.at_
    have ncp := hP.ne
    refine ⟨_, (pss_cons (ps_if (pt_cmpR op_gt (pe_dget hu (pv 0) pe_str (fun _ _ => rfl)) pe_int (nomark _))
      (pss_cons (ps_set (i := 2) sc_draw.nd rfl (Or.inl rfl) (pe_op op_mod (pe_callTy call_int1 (by rfl) T.int_ (by decide +kernel) (pa_cons (pe_dget hu (pv 0) pe_str (fun _ _ => rfl)) pa_nil)) (pv 1)))
      (pss_cons (ps_dput hu (pv 0) pe_str (pe_op op_fdivW (pe_dget hu (pv 0) pe_str (fun _ _ => rfl)) (pv 1)) rfl)
      (pss_one (ps_ret (pv 2)))))
      pss_nil)
    (pss_cons (ps_par (i := 3) (j := 4) (by rfl) sc_draw.nd rfl rfl (by decide) rfl rfl (pa_cons (pe_dget hu (pv 0) pe_str (fun _ _ => rfl)) (pa_cons (pe_callB (show CallR _ _ (rLenQ K) from c_len) (by rfl) T.len_ (by decide +kernel) (pa_cons (pe_dget hu (pv 0) pe_str (fun _ _ => rfl)) pa_nil)) pa_nil)) (by rfl))
    (pss_cons (ps_dput hu (pv 0) pe_str (pe_op op_add (pv 3) pe_int) rfl)
    (pss_cons (ps_set (i := 5) sc_draw.nd rfl (Or.inl rfl) (pe_op op_add (pe_op op_mulW pe_int (pv 3)) pe_int))
    (Evl.pss_cut (ps_if (pt_cmpR op_gt (pv 4) pe_int (nomark _))
      (pss_one (ps_set (i := 5) sc_draw.nd rfl (Or.inl rfl) (pe_ix (show IxR _ (rIxL K) from ix_list) (pe_dget hu (pv 0) pe_str (fun _ _ => rfl)) (pe_op op_mod (pe_callTy call_int1 (by rfl) T.int_ (by decide +kernel) (pa_cons (pv 3) pa_nil)) (pv 4)) (fun _ _ => rfl))))
      pss_nil)
    (Evl.pss_cut (ps_if (PW.pt (pw_and (pt_cmpR op_lt (pv 3) (pv 4) (nomark _)) (pw_and1 (pt_cmpR op_ge (pe_callB call_abs (by rfl) T.abs_ (by decide +kernel) (pa_cons (pv 5) pa_nil)) (pe_op op_pow pe_int pe_int) (nomark _)))))
      (pss_cons (ps_dput hu (pv 0) pe_str (pe_op op_fdivW (pe_op op_sub (pe_callB call_abs (by rfl) T.abs_ (by decide +kernel) (pa_cons (pv 5) pa_nil)) (pe_op op_pow pe_int pe_int)) (pv 1)) rfl)
      (pss_one (ps_ret (pe_op op_mod (pe_op op_sub (pe_callB call_abs (by rfl) T.abs_ (by decide +kernel) (pa_cons (pv 5) pa_nil)) (pe_op op_pow pe_int pe_int)) (pv 1)))))
      pss_nil)
    (pss_cons (ps_set (i := 6) sc_draw.nd rfl (Or.inl rfl) (pe_op op_mod (pe_callTy call_int1 (by rfl) T.int_ (by decide +kernel) (pa_cons (pe_op op_add (pe_op op_add (pe_op op_mulW (pe_op op_mod (pe_callTy call_int1 (by rfl) T.int_ (by decide +kernel) (pa_cons (pv 5) pa_nil)) pe_int) pe_int) (pe_op op_mulW (pe_op op_mulW pe_int (pv 3)) (pv 3))) pe_int) pa_nil)) pe_int))
    (pss_cons (ps_set (i := 6) sc_draw.nd rfl (Or.inl rfl) (pe_op op_mod (pe_callTy call_int1 (by rfl) T.int_ (by decide +kernel) (pa_cons (pe_op op_add (pe_op op_add (pe_op op_add (pe_op op_mulW (pv 6) (pv 6)) (pe_op op_mulW pe_int (pv 6))) (pe_op op_mulW pe_int (pv 3))) pe_int) pa_nil)) pe_int))
    (pss_cons (ps_set (i := 6) sc_draw.nd rfl (Or.inl rfl) (pe_op op_fdivW (pe_op op_mod (pe_callTy call_int1 (by rfl) T.int_ (by decide +kernel) (pa_cons (pe_op op_mulW (pv 6) (pe_op op_add (pv 6) pe_int)) pa_nil)) pe_int) pe_int))
    (pss_one (ps_ret (pe_op op_mod (pe_callTy call_int1 (by rfl) T.int_ (by decide +kernel) (pa_cons (pv 6) pa_nil)) (pv 1))))))))))))), ?_⟩
    have gC : ∀ {H : Hp} {b r : Int}, H p = some (penO c b r) → DGet H p (.str "cells") (some (.ref c)) := fun e => by
      have z := DGet.k (k := kC) e
      rw [pen_c] at z
      exact z
    have gB : ∀ {H : Hp} {b r : Int}, H p = some (penO c b r) → DGet H p (.str "begun") (some (.int b)) := fun e => by
      have z := DGet.k (k := kB) e
      rw [pen_b] at z
      exact z
    have gR : ∀ {H : Hp} {b r : Int}, H p = some (penO c b r) → DGet H p (.str "rest") (some (.int r)) := fun e => by
      have z := DGet.k (k := kR) e
      rw [pen_r] at z
      exact z
    have pB : ∀ {H : Hp} {b r : Int} (y : Int), H p = some (penO c b r) → DPut H p (.str "begun") (.int y) (upd H p (penO c y r)) := fun y e => by
      have z := DPut.k (k := kB) (v := .int y) e (by show 3 < sizeLine; decide)
      rw [pen_pb] at z
      exact z
    have pR : ∀ {H : Hp} {b r : Int} (y : Int), H p = some (penO c b r) → DPut H p (.str "rest") (.int y) (upd H p (penO c b y)) := fun y e => by
      have z := DPut.k (k := kR) (v := .int y) e (by show 3 < sizeLine; decide)
      rw [pen_pr] at z
      exact z
    have cut : CDivW r m := divW 8000 hm hmb (by decide)
    -- if rest > 0
    refine ⟨_, rfl, p, _, rfl, gR e, _, _, rfl, rfl, _, rfl, ?_⟩
    refine ite2 (fun h1 => ?_) (fun h1 => ?_)
    · -- the digit
      refine ⟨_, rfl, p, _, rfl, gR e, .inl ⟨_, rfl, _, rfl, _, _, rfl, rfl, hm, ?_⟩⟩
      refine ⟨_, rfl, p, _, rfl, gR e, _, rfl, _, _, rfl, rfl, divW 8000 hm hmb (by decide), _, rfl, p, _, rfl, pR _ e, _, rfl, ?_⟩
      refine k _ _ (Int.emod_nonneg _ (by omega)) (Int.emod_lt_of_pos _ hm) ⟨⟨_, _, upd_same, hb0, by omega, Int.ediv_nonneg hr0 (by omega)⟩, by rw [upd_ne ncp]; exact hP.cells, hP.few, by omega⟩ ((But.refl _ _).upd _)
    · -- a new cell
      have hl := hP.few
      refine ⟨_, rfl, p, _, rfl, gB e, _, rfl, p, _, rfl, gC e, c, _, rfl, .inl (SqL.of hP.cells), _, _, rfl, ?_⟩
      refine ⟨_, rfl, _, _, rfl, rfl, _, rfl, p, _, rfl, pB _ e, ?_⟩
      have e1 : (upd H p (penO c (b + 1) r)) p = some (penO c (b + 1) r) := upd_same
      have hc1 : (upd H p (penO c (b + 1) r)) c = some (.lst (ns.map V.int)) := by rw [upd_ne ncp]; exact hP.cells
      generalize hH1 : upd H p (penO c (b + 1) r) = H1 at e1 hc1 ⊢
      have but1 : But p H H1 := by rw [← hH1]; exact (But.refl _ _).upd _
      have bnd : b.natAbs < 2 ^ 30 := by omega
      refine ⟨_, rfl, _, _, rfl, rfl, mulW 10 30 (by decide) bnd (by decide), _, _, rfl, rfl, ?_⟩
      -- the cell
      rw [List.length_map]
      refine ⟨fun σ H' => H1 = H' ∧ ∃ cell : Int, σ = [some (.ref p), some (.int m), none, some (.int b), some (.int (ns.length : Int)), some (.int cell), none], ?_, ?_⟩
      · refine ⟨_, rfl, _, _, rfl, rfl, _, rfl, ?_⟩
        refine ite2 (fun h2 => ?_) (fun h2 => ?_)
        · have h3 : 0 < (ns.length : Int) := of_decide_eq_true h2
          obtain ⟨z, hz⟩ := at_some (xs := ns) (i := b % (ns.length : Int)) (Int.emod_nonneg _ (by omega)) (Int.emod_lt_of_pos _ h3)
          exact ⟨_, rfl, p, _, rfl, gC e1, _, rfl, .inl ⟨_, rfl, _, rfl, _, _, rfl, rfl, h3, c, _, _, _, rfl, rfl, SqL.of hc1, hz, rfl, z, rfl⟩⟩
        · exact ⟨rfl, _, rfl⟩
      · rintro _ _ ⟨rfl, cell, rfl⟩
        have pen1 : Pen H1 p c ns (B + 1) := ⟨⟨_, _, e1, by omega, by omega, hr0⟩, hc1, hl, by omega⟩
        refine ⟨fun σ H' => H1 = H' ∧ σ = [some (.ref p), some (.int m), none, some (.int b), some (.int (ns.length : Int)), some (.int cell), none], ?_, ?_⟩
        · refine ⟨_, rfl, _, rfl, _, _, rfl, rfl, _, rfl, ?_⟩
          refine ite2 (fun h2 => ?_) (fun h2 => ⟨rfl, rfl⟩)
          refine ⟨_, rfl, cell, rfl, 10, 18, rfl, rfl, ⟨by decide, by decide, by decide⟩, _, _, rfl, rfl, _, rfl, ?_⟩
          refine ite2 (fun h4 => ?_) (fun h4 => ⟨rfl, rfl⟩)
          have h5 : (10 : Int) ^ (18 : Int).toNat ≤ (if cell < 0 then -cell else cell) := of_decide_eq_true h4
          refine ⟨_, rfl, cell, rfl, 10, 18, rfl, rfl, ⟨by decide, by decide, by decide⟩, _, _, rfl, rfl, _, rfl, _, _, rfl, rfl, divW 8000 hm hmb (by decide), _, rfl, p, _, rfl, pR _ e1, ?_⟩
          refine ⟨_, rfl, cell, rfl, 10, 18, rfl, rfl, ⟨by decide, by decide, by decide⟩, _, _, rfl, rfl, _, rfl, _, _, rfl, rfl, hm, ?_⟩
          exact k _ _ (Int.emod_nonneg _ (by omega)) (Int.emod_lt_of_pos _ hm) ⟨⟨_, _, upd_same, by omega, by omega, Int.ediv_nonneg (by omega) (by omega)⟩, by rw [upd_ne ncp]; exact hc1, hl, by omega⟩ (but1.upd _)
        · rintro _ _ ⟨rfl, rfl⟩
          -- the stir
          have m1 : ∀ x y : Int, 0 < y → y < 2 ^ 32 → (x % y).natAbs < 2 ^ 32 := fun x y h0 h1 => by
            have := Int.emod_nonneg x (show y ≠ 0 by omega)
            have := Int.emod_lt_of_pos x h0
            omega
          have M : ∀ x y : Int, 0 < y → y < 2 ^ 32 → (x % y).natAbs < 2 ^ 32 := m1
          refine ⟨_, rfl, .inl ⟨_, rfl, _, _, rfl, rfl, (show (0 : Int) < 4294967231 by decide), _, _, rfl, rfl, mulW 32 16 (M _ _ (by decide) (by decide)) (by decide) (by decide), _, rfl, _, _, rfl, rfl, mulW 16 30 (by decide) bnd (by decide), _, rfl, _, _, rfl, rfl, mulW 46 30 ?_ bnd (by decide), _, _, rfl, rfl, _, _, rfl, rfl, .inl ⟨_, rfl, _, _, rfl, rfl, (show (0 : Int) < 4294967279 by decide), ?_⟩⟩⟩
          · rw [Int.natAbs_mul]
            exact Nat.lt_of_lt_of_le (Nat.mul_lt_mul_of_le_of_lt (Nat.le_refl _) bnd (by decide)) (by decide)
          refine ⟨_, rfl, _, rfl, _, _, rfl, rfl, mulW 32 32 (M _ _ (by decide) (by decide)) (M _ _ (by decide) (by decide)) (by decide), _, rfl, _, _, rfl, rfl, mulW 17 32 (by decide) (M _ _ (by decide) (by decide)) (by decide), _, _, rfl, rfl, _, rfl, _, _, rfl, rfl, mulW 5 30 (by decide) bnd (by decide), _, _, rfl, rfl, _, _, rfl, rfl, .inl ⟨_, rfl, _, _, rfl, rfl, (show (0 : Int) < 4294967291 by decide), ?_⟩⟩
          refine ⟨_, rfl, _, rfl, _, _, rfl, rfl, _, _, rfl, rfl, mulW 32 33 (M _ _ (by decide) (by decide)) (add_small (M _ _ (by decide) (by decide))) (by decide), .inl ⟨_, rfl, _, _, rfl, rfl, (show (0 : Int) < 4294967197 by decide), _, _, rfl, rfl, divW 7 (by decide) (by decide) (by decide), ?_⟩⟩
          refine ⟨_, rfl, .inl ⟨_, rfl, _, rfl, _, _, rfl, rfl, hm, ?_⟩⟩
          exact k _ _ (Int.emod_nonneg _ (by omega)) (Int.emod_lt_of_pos _ hm) pen1 but1
end
end EN

namespace EN
open PySem L2 PyProof.Rows
section
variable {P : Program} {w : World} {K : PySem.W.Frag} {mg : Str → Option Value} {base : Heap} {f : Addr} {fd : FuncData}
/-! ### sizes of numbers -/
def Sz (b : Nat) (x : Int) : Prop := x.natAbs < 2 ^ b
theorem Sz.mono {a b : Nat} {x : Int} (h : Sz a x) (hab : a ≤ b) : Sz b x := Nat.lt_of_lt_of_le h (Nat.pow_le_pow_right (by decide) hab)
theorem Sz.add {a : Nat} {x y : Int} (h : Sz a x) (g : Sz a y) : Sz (a + 1) (x + y) := by
  unfold Sz at *
  have := Int.natAbs_add_le x y
  rw [Nat.pow_succ]
  omega
theorem Sz.neg {a : Nat} {x : Int} (h : Sz a x) : Sz a (-x) := by
  unfold Sz at *
  rwa [Int.natAbs_neg]
theorem Sz.sub {a : Nat} {x y : Int} (h : Sz a x) (g : Sz a y) : Sz (a + 1) (x - y) := by
  have := h.add g.neg
  rwa [← Int.sub_eq_add_neg] at this
theorem Sz.mul {a b : Nat} {x y : Int} (h : Sz a x) (g : Sz b y) : Sz (a + b) (x * y) := by
  unfold Sz at *
  rw [Int.natAbs_mul, Nat.pow_add]
  exact Nat.mul_lt_mul_of_lt_of_le h (Nat.le_of_lt g) (Nat.two_pow_pos b)
theorem Sz.mulOk {a b : Nat} {x y : Int} (h : Sz a x) (g : Sz b y) (hab : a + b ≤ 999990) : CMulW x y := mulW a b h g hab
theorem Sz.le {a : Nat} {x : Int} {m : Nat} (h0 : x.natAbs ≤ m) (hm : m < 2 ^ a) : Sz a x := Nat.lt_of_le_of_lt h0 hm
theorem Sz.div {a : Nat} {x y : Int} (h : Sz a x) : Sz a (x / y) := by
  unfold Sz at *
  exact Nat.lt_of_le_of_lt (Int.natAbs_ediv_le_natAbs x y) h

/-! ### promises -/
def spPick (K : PySem.W.Frag) : Sp := fun vs H Q _ => ∃ (p c : Addr) (ns : List Int) (B : Nat) (l : Addr) (xs : List V), vs = [.ref p, .ref l] ∧ Pen H p c ns B ∧ B < 1000000000 ∧ (SqL K H l xs ∨ SqT K H l xs) ∧ 0 < xs.length ∧ xs.length ≤ 1000 ∧
  ∀ x ∈ xs, ∀ H' : Hp, Pen H' p c ns (B + 1) → But p H H' → Q x H'
def spWhole : Sp := fun vs H Q _ => ∃ i : Int, vs = [.int i] ∧ Q (.bl true) H
def spGreat : Sp := fun vs H Q _ => ∃ (p c : Addr) (ns : List Int) (B : Nat) (m : Int), vs = [.ref p, .int m] ∧ Pen H p c ns B ∧ B + 20 ≤ 1000000000 ∧ 0 < m ∧ Sz 300 m ∧
  ∀ (d : Int) (H' : Hp), 0 ≤ d → d < m → Pen H' p c ns (B + 20) → But p H H' → Q (.int d) H'
def spInteger : Sp := fun vs H Q _ => ∃ (p c : Addr) (ns : List Int) (B : Nat), vs = [.ref p] ∧ Pen H p c ns B ∧ B + 30 ≤ 1000000000 ∧
  ∀ (z : Int) (H' : Hp), Sz 200 z → Pen H' p c ns (B + 30) → But p H H' → Q (.int z) H'
def spFar : Sp := fun vs H Q _ => ∃ (p c : Addr) (ns : List Int) (B : Nat), vs = [.ref p] ∧ Pen H p c ns B ∧ B + 30 ≤ 1000000000 ∧
  ∀ (z : Int) (H' : Hp), 0 ≤ z → Sz 340 z → Pen H' p c ns (B + 30) → But p H H' → Q (.int z) H'
end
end EN

namespace EN
open PySem L2 PyProof.Rows
section
variable {P : Program} {w : World} {K : PySem.W.Frag} {mg : Str → Option Value} {base : Heap} {f : Addr} {fd : FuncData}
def spIsWhole : Sp := fun vs H Q _ => ∃ i : Int, vs = [.int i] ∧ Q (.bl true) H
def spCheckWhole : Sp := fun vs H Q _ => ∃ i : Int, vs = [.int i] ∧ Q .non H
def spCheckFrom : Sp := fun vs H Q _ => ∃ i b : Int, vs = [.int i, .int b] ∧ b ≤ i ∧ Q .non H
abbrev SeqI (K : PySem.W.Frag) (H : Hp) (a : Addr) (r : List Int) : Prop := SqL K H a (r.map V.int) ∨ SqT K H a (r.map V.int)
def spCheckWholes (K : PySem.W.Frag) : Sp := fun vs H Q _ => ∃ (a : Addr) (r : List Int), vs = [.ref a] ∧ SeqI K H a r ∧ r.length ≤ 1000 ∧ ∀ H' : Hp, Same H H' → Q .non H'
def spChooses : Sp := fun vs H Q _ => ∃ (n : Int) (m : Nat), vs = [.int n, .int (m : Int)] ∧ m ≤ 16 ∧ Sz 400 n ∧ ∀ (l : Addr) (H' : Hp), Same H H' → H l = none → H' l = some (.lst (((List.range m).map fun k => M.C n k).map V.int)) → Q (.ref l) H'
def spRowValue (K : PySem.W.Frag) : Sp := fun vs H Q _ => ∃ (a : Addr) (r : List Int) (n : Int), vs = [.ref a, .int n] ∧ SqT K H a (r.map V.int) ∧ r.length ≤ 12 ∧ (∀ x ∈ r, Sz 9000 x) ∧ Sz 400 n ∧ ∀ H' : Hp, Same H H' → Q (.int (M.val r n)) H'
theorem int_at {r : List Int} {i : Nat} {x : V} (h : (r.map V.int)[i]? = some x) : i < r.length ∧ x = V.int (r.getD i 0) := by
  rw [List.getElem?_map] at h
  cases e : r[i]? with
  | none => rw [e] at h; cases h
  | some j =>
    rw [e] at h
    refine ⟨(List.getElem?_eq_some_iff.mp e).1, ?_⟩
    rw [List.getD_eq_getElem?_getD, e]
    exact (Option.some.inj h).symm
end
end EN

namespace EN.M
theorem valF_sum (n : Int) : ∀ (r : List Int) (j : Nat), valF j r n = ((List.range r.length).map fun k => r.getD k 0 * C n (j + k)).sum
  | [], j => rfl
  | a :: r, j => by
    rw [valF, valF_sum n r (j + 1), List.length_cons, List.range_succ_eq_map, List.map_cons, List.map_map, List.sum_cons]
    congr 1
    congr 1
    refine List.map_congr_left fun k _ => ?_
    show r.getD k 0 * C n (j + 1 + k) = (a :: r).getD (k + 1) 0 * C n (j + (k + 1))
    rw [List.getD_cons_succ, show j + 1 + k = j + (k + 1) by omega]
theorem val_sum (n : Int) (r : List Int) : val r n = ((List.range r.length).map fun k => r.getD k 0 * C n k).sum := by
  have h := valF_sum n r 0
  simp only [Nat.zero_add] at h
  exact h
theorem diffs_eq (l : List Int) : diffs l = (List.range (l.length - 1)).map fun k => l.getD (k + 1) 0 - l.getD k 0 := by
  refine List.ext_getElem? fun k => ?_
  by_cases h : k < l.length - 1
  · have h0 : k < l.length := by omega
    have h1 : k + 1 < l.length := by omega
    rw [diffs_get l k _ _ (List.getElem?_eq_getElem h0) (List.getElem?_eq_getElem h1)]
    simp [h, List.getD_eq_getElem?_getD, List.getElem?_eq_getElem h0, List.getElem?_eq_getElem h1]
  · have e1 : (diffs l)[k]? = none := List.getElem?_eq_none_iff.mpr (by rw [diffs_len]; omega)
    have e2 : ((List.range (l.length - 1)).map fun k => l.getD (k + 1) 0 - l.getD k 0)[k]? = none := List.getElem?_eq_none_iff.mpr (by rw [List.length_map, List.length_range]; omega)
    rw [e1, e2]
theorem cutN_zero (r : List Int) (e : Nat) (h : r[e]? = some 0) : cutN r (e + 1) = cutN r e := by
  show (if r[e]? = some 0 then cutN r e else e + 1) = _
  rw [if_pos h]
theorem cutN_stop (r : List Int) (e : Nat) (h : r[e]? ≠ some 0) : cutN r (e + 1) = e + 1 := by
  show (if r[e]? = some 0 then cutN r e else e + 1) = _
  rw [if_neg h]
end EN.M

namespace EN.M
/-! ### sums over an initial part -/
theorem sum_add (l : List Nat) (f g : Nat → Int) : (l.map fun k => f k + g k).sum = (l.map f).sum + (l.map g).sum := by
  induction l with
  | nil => rfl
  | cons a l ih => simp only [List.map_cons, List.sum_cons, ih]; omega
theorem sum_mul (l : List Nat) (f : Nat → Int) (c : Int) : (l.map fun k => f k * c).sum = (l.map f).sum * c := by
  induction l with
  | nil => simp
  | cons a l ih => simp only [List.map_cons, List.sum_cons, ih, Int.add_mul]
theorem sum_zero (l : List Nat) (f : Nat → Int) (h : ∀ k ∈ l, f k = 0) : (l.map f).sum = 0 := by
  induction l with
  | nil => rfl
  | cons a l ih => simp only [List.map_cons, List.sum_cons, h a List.mem_cons_self, ih fun k hk => h k (List.mem_cons_of_mem _ hk)]; rfl
/-- a row's value, by any number of members that is enough -/
theorem val_upto (n : Int) (r : List Int) {m : Nat} (h : r.length ≤ m) : val r n = ((List.range m).map fun k => r.getD k 0 * C n k).sum := by
  obtain ⟨d, rfl⟩ : ∃ d, m = r.length + d := ⟨m - r.length, by omega⟩
  rw [val_sum, List.range_add, List.map_append, List.sum_append, List.map_map, sum_zero (List.range d), Int.add_zero]
  intro k _
  show r.getD (r.length + k) 0 * C n (r.length + k) = 0
  rw [List.getD_eq_getElem?_getD, List.getElem?_eq_none (by omega)]
  simp
theorem val_range (n : Int) (m : Nat) (g : Nat → Int) : val ((List.range m).map g) n = ((List.range m).map fun k => g k * C n k).sum := by
  rw [val_sum, List.length_map, List.length_range]
  congr 1
  refine List.map_congr_left fun k hk => ?_
  have hk := List.mem_range.mp hk
  rw [List.getD_eq_getElem?_getD, List.getElem?_map, List.getElem?_range hk]
  rfl
/-! ### one row for each function -/
theorem cutN_append (r s : List Int) : ∀ e, e ≤ r.length → cutN (r ++ s) e = cutN r e
  | 0, _ => rfl
  | e + 1, h => by
    unfold cutN
    rw [List.getElem?_append_left (by omega), cutN_append r s e (by omega)]
theorem cut_snoc (r : List Int) : cut (r ++ [0]) = cut r := by
  unfold cut
  have e1 : (r ++ [0]).length = r.length + 1 := by simp
  rw [e1, cutN_zero _ _ (by simp), cutN_append r [0] _ (Nat.le_refl _)]
  have := cutN_le r r.length
  rw [List.take_append_of_le_length this]
theorem cut_zeros (r : List Int) : ∀ d, cut (r ++ List.replicate d 0) = cut r
  | 0 => by simp
  | d + 1 => by
    rw [List.replicate_succ', ← List.append_assoc, cut_snoc, cut_zeros r d]
theorem val_zeros (r : List Int) (d : Nat) (n : Int) : val (r ++ List.replicate d 0) n = val r n := by
  rw [val, valF_append, valF_zeros, Int.add_zero]
  rfl
theorem cut_unique {r s : List Int} (h : ∀ k : Nat, val r (k : Int) = val s (k : Int)) : cut r = cut s := by
  rw [← cut_zeros r s.length, ← cut_zeros s r.length]
  congr 1
  refine row_unique _ _ (by simp; omega) fun k _ => ?_
  rw [val_zeros, val_zeros, h]
theorem cut_fun {r s : List Int} {f : Int → Int} (hr : ∀ n, val r n = f n) (hs : ∀ n, val s n = f n) : cut r = cut s := cut_unique fun k => by rw [hr, hs]
theorem cut_cut (r : List Int) : cut (cut r) = cut r := cut_unique fun k => cut_val r k
/-! ### functions of a degree below m -/
def Deg : Nat → (Int → Int) → Prop
  | 0, f => ∀ n, f n = 0
  | m + 1, f => Deg m fun n => f (n + 1) - f n
theorem Deg.congr {f g : Int → Int} (h : ∀ n, f n = g n) {m : Nat} (d : Deg m f) : Deg m g := by
  obtain rfl : f = g := funext h
  exact d
theorem Deg.zero {f : Int → Int} (h : ∀ n, f n = 0) : ∀ m, Deg m f
  | 0 => h
  | m + 1 => Deg.zero (fun n => by rw [h, h]; rfl) m
theorem Deg.succ : ∀ {m : Nat} {f : Int → Int}, Deg m f → Deg (m + 1) f
  | 0, f, d => fun n => by show f (n + 1) - f n = 0; rw [d, d]; rfl
  | m + 1, f, d => Deg.succ (m := m) d
theorem Deg.mono {m k : Nat} {f : Int → Int} (d : Deg m f) (h : m ≤ k) : Deg k f := by
  obtain ⟨j, rfl⟩ := Nat.exists_eq_add_of_le h
  clear h
  induction j with
  | zero => exact d
  | succ j ih => exact ih.succ
theorem Deg.add : ∀ {m : Nat} {f g : Int → Int}, Deg m f → Deg m g → Deg m fun n => f n + g n
  | 0, f, g, a, b => fun n => by show f n + g n = 0; rw [a, b]; rfl
  | m + 1, f, g, a, b => (Deg.add (m := m) a b).congr fun n => by
    show f (n + 1) - f n + (g (n + 1) - g n) = f (n + 1) + g (n + 1) - (f n + g n)
    omega
theorem Deg.shift (k : Int) : ∀ {m : Nat} {f : Int → Int}, Deg m f → Deg m fun n => f (n + k)
  | 0, f, a => fun n => a _
  | m + 1, f, a => (Deg.shift k (m := m) a).congr fun n => by
    show f (n + k + 1) - f (n + k) = f (n + 1 + k) - f (n + k)
    rw [show n + k + 1 = n + 1 + k by omega]
theorem Deg.mul : ∀ (N a b : Nat), a + b = N → ∀ {f g : Int → Int}, Deg (a + 1) f → Deg (b + 1) g → Deg (N + 1) fun n => f n * g n := by
  intro N
  induction N with
  | zero =>
    intro a b e f g hf hg
    obtain ⟨rfl, rfl⟩ : a = 0 ∧ b = 0 := by omega
    intro n
    have h1 : f (n + 1) - f n = 0 := hf n
    have h2 : g (n + 1) - g n = 0 := hg n
    show f (n + 1) * g (n + 1) - f n * g n = 0
    rw [show f (n + 1) = f n by omega, show g (n + 1) = g n by omega, Int.sub_self]
  | succ N ih =>
    intro a b e f g hf hg
    have p1 : Deg (N + 1) fun n => f (n + 1) * (g (n + 1) - g n) := by
      cases b with
      | zero => exact Deg.zero (fun n => by rw [show g (n + 1) - g n = 0 from hg n, Int.mul_zero]) _
      | succ b => exact ih a b (by omega) (f := fun n => f (n + 1)) (g := fun n => g (n + 1) - g n) (hf.shift 1) hg
    have p2 : Deg (N + 1) fun n => (f (n + 1) - f n) * g n := by
      cases a with
      | zero => exact Deg.zero (fun n => by rw [show f (n + 1) - f n = 0 from hf n, Int.zero_mul]) _
      | succ a => exact ih a b (by omega) (f := fun n => f (n + 1) - f n) (g := g) hf hg
    refine Deg.congr (m := N + 1) (g := fun n => f (n + 1) * g (n + 1) - f n * g n) (fun n => ?_) (p1.add p2)
    show f (n + 1) * (g (n + 1) - g n) + (f (n + 1) - f n) * g n = f (n + 1) * g (n + 1) - f n * g n
    rw [Int.mul_sub, Int.sub_mul]
    omega
theorem deg_val : ∀ r : List Int, Deg r.length (val r)
  | [] => fun n => rfl
  | a :: r => by
    refine Deg.congr (m := r.length) (f := val r) (g := fun n => val (a :: r) (n + 1) - val (a :: r) n) (fun n => ?_) (deg_val r)
    rw [val_cons, val_cons, valF1_step]
    omega
theorem diffs_vals (f : Int → Int) : ∀ m, diffs (vals f (m + 1)) = vals (fun n => f (n + 1) - f n) m := fun m => by
  refine List.ext_getElem? fun k => ?_
  by_cases h : k < m
  · rw [diffs_get _ k _ _ (vals_get f (m + 1) k (by omega)) (vals_get f (m + 1) (k + 1) (by omega)), vals_get _ m k h]
    rfl
  · rw [List.getElem?_eq_none (by rw [diffs_len, vals_len]; omega), List.getElem?_eq_none (by rw [vals_len]; omega)]
theorem newton : ∀ (m : Nat) {f : Int → Int}, Deg m f → ∀ n, val (thr (vals f m)) n = f n
  | 0, f, d, n => (d n).symm
  | m + 1, f, d, n => by
    have ih := newton m (f := fun n => f (n + 1) - f n) d
    have e : vals f (m + 1) = f 0 :: (vals f (m + 1)).drop 1 := by
      unfold vals
      rw [List.range_succ_eq_map]
      rfl
    rw [e, thr_cons, ← e, diffs_vals, val_cons]
    refine int_ind (p := fun n => f 0 + valF 1 (thr (vals (fun n => f (n + 1) - f n) m)) n = f n) ?_ (fun n h => ?_) (fun n h => ?_) n
    · rw [valF_at0, Int.add_zero]
    · rw [valF1_step, ih]; omega
    · rw [valF1_step, ih] at h; omega
/-! ### sums, products, multiples, moves -/
def add (r s : List Int) : List Int := (List.range r.length).map fun k => if k < s.length then r.getD k 0 + s.getD k 0 else r.getD k 0
theorem add_val {r s : List Int} (h : s.length ≤ r.length) (n : Int) : val (add r s) n = val r n + val s n := by
  rw [add, val_range, val_upto n r (Nat.le_refl _), val_upto n s h, ← sum_add]
  congr 1
  refine List.map_congr_left fun k _ => ?_
  split
  · rw [Int.add_mul]
  · rename_i q
    have e : s.getD k 0 = 0 := by rw [List.getD_eq_getElem?_getD, List.getElem?_eq_none (by omega)]; rfl
    rw [e, Int.zero_mul, Int.add_zero]
def plus (r s : List Int) : List Int := if r.length < s.length then add s r else add r s
theorem plus_val (r s : List Int) (n : Int) : val (plus r s) n = val r n + val s n := by
  unfold plus
  split
  · rw [add_val (by omega), Int.add_comm]
  · exact add_val (by omega) n
theorem add_len (r s : List Int) : (add r s).length = r.length := by simp [add]
theorem plus_len (r s : List Int) : (plus r s).length = max r.length s.length := by
  unfold plus
  split
  · rw [add_len]; omega
  · rw [add_len]; omega
def times (r : List Int) (c : Int) : List Int := r.map fun a => a * c
theorem times_val (r : List Int) (c n : Int) : val (times r c) n = val r n * c := by
  rw [val_upto n (times r c) (m := r.length) (by simp [times]), val_upto n r (Nat.le_refl _), ← sum_mul]
  congr 1
  refine List.map_congr_left fun k hk => ?_
  have hk := List.mem_range.mp hk
  have e : (times r c).getD k 0 = r.getD k 0 * c := by
    unfold times
    rw [List.getD_eq_getElem?_getD, List.getElem?_map, List.getD_eq_getElem?_getD, List.getElem?_eq_getElem hk]
    rfl
  rw [e, Int.mul_right_comm]
theorem times_len (r : List Int) (c : Int) : (times r c).length = r.length := by simp [times]
def less (r s : List Int) : List Int := plus r (times s (-1))
theorem less_val (r s : List Int) (n : Int) : val (less r s) n = val r n - val s n := by
  rw [less, plus_val, times_val]
  omega
theorem less_len (r s : List Int) : (less r s).length = max r.length s.length := by rw [less, plus_len, times_len]
def prod (r s : List Int) : List Int := if r = [] ∨ s = [] then [] else thr (vals (fun n => val r n * val s n) (r.length + s.length - 1))
theorem deg_prod (r s : List Int) : Deg (r.length + s.length - 1) fun n => val r n * val s n := by
  cases r with
  | nil => exact Deg.zero (fun n => Int.zero_mul _) _
  | cons a r =>
    cases s with
    | nil => exact Deg.zero (fun n => Int.mul_zero _) _
    | cons b s =>
      have h := Deg.mul (r.length + s.length) r.length s.length rfl (deg_val (a :: r)) (deg_val (b :: s))
      exact h.mono (by simp only [List.length_cons]; omega)
theorem prod_val (r s : List Int) (n : Int) : val (prod r s) n = val r n * val s n := by
  unfold prod
  split
  · rename_i h
    rcases h with h | h
    · subst h
      exact (Int.zero_mul _).symm
    · subst h
      exact (Int.mul_zero _).symm
  · exact newton _ (deg_prod r s) n
theorem prod_len (r s : List Int) : (prod r s).length ≤ r.length + s.length - 1 := by
  unfold prod
  split
  · exact Nat.zero_le _
  · rw [thr_len, vals_len]; exact Nat.le_refl _
theorem prod_law (r s : List Int) (n : Int) : val (thr (vals (fun n => val r n * val s n) (r.length + s.length))) n = val r n * val s n :=
  newton _ ((deg_prod r s).mono (by omega)) n
theorem move_law (r : List Int) (k n : Int) : val (thr (vals (fun n => val r (n + k)) r.length)) n = val r (n + k) := newton _ ((deg_val r).shift k) n
/-- a row of multiples, divided -/
theorem times_inj {r : List Int} {s : List Int} {c : Int} (hc : c ≠ 0) (h : ∀ n, val s n * c = val r n * c) (n : Int) : val s n = val r n := Int.eq_of_mul_eq_mul_right hc (h n)
end EN.M

namespace EN
open PySem L2 PyProof.Rows
section
variable {P : Program} {w : World} {K : PySem.W.Frag} {mg : Str → Option Value} {base : Heap} {f : Addr} {fd : FuncData}
/-! ### rows: promises with any bounds -/
theorem ffb {b : Nat} (hb : 6 ≤ b) {n : Int} (h : Sz b n) : ∀ k : Nat, k ≤ 64 → Sz ((b + 1) * k + 1) (M.ff n k)
  | 0, _ => by show (1 : Int).natAbs < 2 ^ ((b + 1) * 0 + 1); rw [Nat.mul_zero]; decide
  | k + 1, hk => by
    have h1 := (ffb hb h k (by omega)).mul (Sz.sub h (Sz.mono (a := 6) (b := b) (x := (k : Int)) (by unfold Sz; omega) hb))
    exact h1.mono (by rw [Nat.mul_succ]; omega)
theorem Cb {b : Nat} (hb : 6 ≤ b) {n : Int} (h : Sz b n) {k : Nat} (hk : k ≤ 64) : Sz ((b + 1) * k + 1) (M.C n k) := Sz.div (ffb hb h k hk)
theorem Cb16 {b : Nat} (hb : 6 ≤ b) {n : Int} (h : Sz b n) {k : Nat} (hk : k ≤ 15) : Sz (15 * b + 16) (M.C n k) := (Cb hb h (by omega)).mono (by
  have : (b + 1) * k ≤ (b + 1) * 15 := Nat.mul_le_mul_left _ hk
  omega)
theorem valFb {b c : Nat} (hb : 6 ≤ b) {n : Int} (hn : Sz b n) : ∀ (r : List Int) (j : Nat), j + r.length ≤ 16 → (∀ x ∈ r, Sz c x) → Sz (c + 15 * b + 16 + r.length) (M.valF j r n)
  | [], j, _, _ => by unfold M.valF Sz; exact Nat.two_pow_pos _
  | a :: r, j, h, hx => by
    rw [List.length_cons] at h
    have h1 := (hx a List.mem_cons_self).mul (Cb16 hb hn (k := j) (by omega))
    have h2 := valFb hb hn r (j + 1) (by omega) (fun x hx' => hx x (List.mem_cons_of_mem _ hx'))
    exact ((h1.mono (b := c + 15 * b + 16 + r.length) (by omega)).add h2).mono (by rw [List.length_cons]; omega)
theorem valb {b c : Nat} (hb : 6 ≤ b) {n : Int} (hn : Sz b n) {r : List Int} (hl : r.length ≤ 16) (hx : ∀ x ∈ r, Sz c x) : Sz (c + 15 * b + 32) (M.val r n) := (valFb hb hn r 0 (by omega) hx).mono (by omega)
theorem diffs_szb {b : Nat} : ∀ l : List Int, (∀ x ∈ l, Sz b x) → ∀ x ∈ M.diffs l, Sz (b + 1) x
  | [], _, x, h => by simp [M.diffs] at h
  | [_], _, x, h => by simp [M.diffs] at h
  | a :: c :: r, hx, x, h => by
    rcases List.mem_cons.mp (show x ∈ (c - a) :: M.diffs (c :: r) from h) with e | e
    · rw [e]
      exact Sz.sub (hx c (by simp)) (hx a (by simp))
    · exact diffs_szb (c :: r) (fun y hy => hx y (List.mem_cons_of_mem _ hy)) x e
theorem thr_szb : ∀ (m : Nat) (l : List Int) (b : Nat), l.length = m → (∀ x ∈ l, Sz b x) → ∀ x ∈ M.thr l, Sz (b + m) x
  | 0, [], b, _, hx, x, h => by simp [M.thr_nil] at h
  | 0, _ :: _, b, e, _, _, _ => by simp at e
  | m + 1, [], b, e, _, _, _ => by simp at e
  | m + 1, a :: r, b, e, hx, x, h => by
    rw [M.thr_cons] at h
    rcases List.mem_cons.mp h with z | z
    · rw [z]; exact (hx a List.mem_cons_self).mono (by omega)
    · exact (thr_szb m (M.diffs (a :: r)) (b + 1) (by rw [M.diffs_len, e]; rfl) (diffs_szb _ hx) x z).mono (by omega)
/-- all members of a row -/
def SzA (c : Nat) (r : List Int) : Prop := ∀ x ∈ r, Sz c x
theorem SzA.mono {a b : Nat} {r : List Int} (h : SzA a r) (hab : a ≤ b) : SzA b r := fun x hx => (h x hx).mono hab
theorem SzA.cut {c : Nat} {r : List Int} (h : SzA c r) : SzA c (M.cut r) := fun x hx => h x (List.mem_of_mem_take hx)
theorem SzA.get {c : Nat} {r : List Int} (h : SzA c r) (k : Nat) : Sz c (r.getD k 0) := by
  rw [List.getD_eq_getElem?_getD]
  cases e : r[k]? with
  | none => exact Nat.two_pow_pos _
  | some x => exact h x (List.mem_of_getElem? e)
theorem SzA.add {c : Nat} {r s : List Int} (h : SzA c r) (g : SzA c s) : SzA (c + 1) (M.add r s) := fun x hx => by
  obtain ⟨k, _, rfl⟩ := List.mem_map.mp hx
  show Sz (c + 1) (if k < s.length then r.getD k 0 + s.getD k 0 else r.getD k 0)
  split
  · exact (h.get k).add (g.get k)
  · exact (h.get k).mono (by omega)
theorem SzA.plus {c : Nat} {r s : List Int} (h : SzA c r) (g : SzA c s) : SzA (c + 1) (M.plus r s) := by
  unfold M.plus
  split
  · exact g.add h
  · exact h.add g
theorem SzA.times {c d : Nat} {r : List Int} {k : Int} (h : SzA c r) (g : Sz d k) : SzA (c + d) (M.times r k) := fun x hx => by
  obtain ⟨a, ha, rfl⟩ := List.mem_map.mp hx
  exact (h a ha).mul g
theorem SzA.less {c : Nat} {r s : List Int} (h : SzA c r) (g : SzA c s) : SzA (c + 2) (M.less r s) := by
  have h1 := g.times (d := 1) (k := -1) (by unfold Sz; decide)
  exact SzA.plus (c := c + 1) (h.mono (by omega)) h1
theorem SzA.prod {c : Nat} {r s : List Int} (h : SzA c r) (g : SzA c s) (lr : r.length ≤ 16) (ls : s.length ≤ 16) (l : r.length + s.length ≤ 32) : SzA (2 * c + 400) (M.prod r s) := by
  unfold M.prod
  split
  · intro x hx
    cases hx
  · refine SzA.mono (a := (2 * c + 244) + (r.length + s.length - 1)) (fun x hx => thr_szb _ _ (2 * c + 244) (by rw [M.vals_len]) (fun y hy => ?_) x hx) (by omega)
    obtain ⟨k, hk, rfl⟩ := List.mem_map.mp hy
    have hk := List.mem_range.mp hk
    have hz : Sz 6 (k : Int) := by unfold Sz; omega
    exact ((valb (by decide) hz lr h).mul (valb (by decide) hz ls g)).mono (by omega)
theorem SzA.ah {c b : Nat} (hb : 6 ≤ b) {k : Int} (hk : Sz b k) {r : List Int} (h : SzA c r) (lr : r.length ≤ 16) : SzA (c + 15 * b + 32) (M.ah r k) := fun x hx => by
  rw [← M.ah_eq] at hx
  obtain ⟨j, _, rfl⟩ := List.mem_map.mp hx
  exact valb hb hk (by rw [List.length_drop]; omega) fun y hy => h y (List.mem_of_mem_drop hy)
theorem cut_len (r : List Int) : (M.cut r).length ≤ r.length := by
  unfold M.cut
  rw [List.length_take]
  omega
def spChs : Sp := fun vs H Q _ => ∃ (n : Int) (m b : Nat), vs = [.int n, .int (m : Int)] ∧ m ≤ 64 ∧ 6 ≤ b ∧ b ≤ 10000 ∧ Sz b n ∧ ∀ (l : Addr) (H' : Hp), Same H H' → H l = none → H' l = some (.lst (((List.range m).map fun k => M.C n k).map V.int)) → Q (.ref l) H'
def spRowV (K : PySem.W.Frag) : Sp := fun vs H Q _ => ∃ (a : Addr) (r : List Int) (n : Int) (b c : Nat), vs = [.ref a, .int n] ∧ SeqI K H a r ∧ r.length ≤ 16 ∧ SzA c r ∧ c ≤ 200000 ∧ 6 ≤ b ∧ b ≤ 10000 ∧ Sz b n ∧ ∀ H' : Hp, Same H H' → Q (.int (M.val r n)) H'
def spRowSum (K : PySem.W.Frag) : Sp := fun vs H Q _ => ∃ (a a' : Addr) (r s : List Int), vs = [.ref a, .ref a'] ∧ SeqI K H a r ∧ SeqI K H a' s ∧ r.length ≤ 900 ∧ s.length ≤ 900 ∧ ∀ (l : Addr) (H' : Hp), Same H H' → H l = none → H' l = some (.lst ((M.plus r s).map V.int)) → Q (.ref l) H'
def spRowSum1 (K : PySem.W.Frag) : Sp := fun vs H Q _ => ∃ (a a' : Addr) (r s : List Int), vs = [.ref a, .ref a'] ∧ SeqI K H a r ∧ SeqI K H a' s ∧ s.length ≤ r.length ∧ r.length ≤ 900 ∧ ∀ (l : Addr) (H' : Hp), Same H H' → H l = none → H' l = some (.lst ((M.add r s).map V.int)) → Q (.ref l) H'
def spRowTimes (K : PySem.W.Frag) : Sp := fun vs H Q _ => ∃ (a : Addr) (r : List Int) (k : Int) (c d : Nat), vs = [.ref a, .int k] ∧ SeqI K H a r ∧ r.length ≤ 900 ∧ SzA c r ∧ Sz d k ∧ c + d ≤ 900000 ∧ ∀ (l : Addr) (H' : Hp), Same H H' → H l = none → H' l = some (.lst ((M.times r k).map V.int)) → Q (.ref l) H'
def spRowLess (K : PySem.W.Frag) : Sp := fun vs H Q _ => ∃ (a a' : Addr) (r s : List Int) (c : Nat), vs = [.ref a, .ref a'] ∧ SeqI K H a r ∧ SeqI K H a' s ∧ r.length ≤ 900 ∧ s.length ≤ 900 ∧ SzA c s ∧ c ≤ 800000 ∧ ∀ (l : Addr) (H' : Hp), Same H H' → H l = none → H' l = some (.lst ((M.less r s).map V.int)) → Q (.ref l) H'
def spRowThr (K : PySem.W.Frag) : Sp := fun vs H Q _ => ∃ (a : Addr) (r : List Int), vs = [.ref a] ∧ SeqI K H a r ∧ r.length ≤ 1000 ∧ ∀ (l : Addr) (H' : Hp), Same H H' → H l = none → H' l = some (.lst ((M.thr r).map V.int)) → Q (.ref l) H'
def spRowProd (K : PySem.W.Frag) : Sp := fun vs H Q _ => ∃ (a a' : Addr) (r s : List Int) (c : Nat), vs = [.ref a, .ref a'] ∧ SeqI K H a r ∧ SeqI K H a' s ∧ r.length ≤ 16 ∧ s.length ≤ 16 ∧ SzA c r ∧ SzA c s ∧ c ≤ 200000 ∧ ∀ (l : Addr) (H' : Hp), Same H H' → H l = none → H' l = some (.lst ((M.prod r s).map V.int)) → Q (.ref l) H'
def spRowAh (K : PySem.W.Frag) : Sp := fun vs H Q _ => ∃ (a : Addr) (r : List Int) (k : Int) (b c : Nat), vs = [.ref a, .int k] ∧ SeqI K H a r ∧ r.length ≤ 16 ∧ SzA c r ∧ c ≤ 200000 ∧ 6 ≤ b ∧ b ≤ 10000 ∧ Sz b k ∧ ∀ (l : Addr) (H' : Hp), Same H H' → H l = none → H' l = some (.lst ((M.ah r k).map V.int)) → Q (.ref l) H'
def spTrim (K : PySem.W.Frag) : Sp := fun vs H Q _ => ∃ (a : Addr) (r : List Int), vs = [.ref a] ∧ SeqI K H a r ∧ r.length ≤ 1000 ∧ ∀ (t : Addr) (H' : Hp), Same H H' → SqT K H' t ((M.cut r).map V.int) → Q (.ref t) H'
end
end EN

/-! zip of three; comprehensions with a test -/
namespace ZK
open PySem PySem.Spec PyProof.Rows L2
def Itz3 (K : PySem.W.Frag) (k1 k2 k3 : Kd) (a b c : Addr) : It :=
  ⟨fun i H => ∃ (xs ys zs : List V) (x y z : V), SqK K H a xs k1 ∧ SqK K H b ys k2 ∧ SqK K H c zs k3 ∧ xs[i]? = some x ∧ ys[i]? = some y ∧ zs[i]? = some z,
    fun i H v H' => ∃ T x y z, v = .ref T ∧ H T = none ∧ H' = upd H T (.tup [x, y, z]) ∧ (∀ xs, SqK K H a xs k1 → xs[i]? = some x) ∧ (∀ ys, SqK K H b ys k2 → ys[i]? = some y) ∧ ∀ zs, SqK K H c zs k3 → zs[i]? = some z,
    fun i H => ∃ xs ys zs : List V, SqK K H a xs k1 ∧ SqK K H b ys k2 ∧ SqK K H c zs k3 ∧ i ≤ xs.length ∧ i ≤ ys.length ∧ i ≤ zs.length ∧ (i = xs.length ∨ i = ys.length ∨ i = zs.length)⟩
theorem turn_z3 {P : Program} {w : World} {K : PySem.W.Frag} {elts : List Expr} {kk : Nat} {tpos : Pos} {k1 k2 k3 : Kd} {a b c z TI TO i1 i2 i3 : Addr} (S : ZipSep3 z TI TO i1 i2 i3 [i1, a] [i2, b] [i3, c]) (n1 : a ≠ i1) (n2 : b ≠ i2) (n3 : c ≠ i3) :
    Turn P w K (.Tuple elts kk tpos) (Itz3 K k1 k2 k3 a b c) [z, TI, TO, i1, i2, i3] z
      (fun i h => IsZip h z TI TO .none ∧ IsTupOf3 h TI (.ref i1) (.ref i2) (.ref i3) ∧ (∃ x y u, IsTupOf3 h TO x y u) ∧ IterK h i1 a i k1 ∧ IterK h i2 b i k2 ∧ IterK h i3 c i k3) where
  mem := by simp
  obj := fun i h st q hq => by
    obtain ⟨hz, hTI, ⟨x, y, u, hTO⟩, h1, h2, h3⟩ := st
    simp only [List.mem_cons, List.mem_nil_iff, or_false] at hq
    rcases hq with rfl | rfl | rfl | rfl | rfl | rfl
    · exact ⟨_, hz, fun v q => nomatch q⟩
    · exact ⟨_, hTI, fun v q => nomatch q⟩
    · exact ⟨_, hTO, fun v q => nomatch q⟩
    · exact iterK_obj h1
    · exact iterK_obj h2
    · exact iterK_obj h3
  keep := fun i h h' st k => by
    obtain ⟨hz, hTI, ⟨x, y, u, hTO⟩, h1, h2, h3⟩ := st
    exact ⟨k z (by simp) _ hz, k TI (by simp) _ hTI, ⟨x, y, u, k TO (by simp) _ hTO⟩, iterK_at h1 fun o q => k i1 (by simp) o q, iterK_at h2 fun o q => k i2 (by simp) o q, iterK_at h3 fun o q => k i3 (by simp) o q⟩
  item := by
    intro X hP hw hK hc i pins s σ H E I hf st hg
    subst hP hw hK
    obtain ⟨hz, hTI, ⟨x0, y0, u0, hTO⟩, h1, h2, h3⟩ := st
    obtain ⟨xs, ys, zs, x, y, t, qx, qy, qz, hx, hy, ht⟩ := hg
    obtain ⟨its1, rv1, p1, _, _⟩ := invK I qx
    obtain ⟨its2, rv2, p2, _, _⟩ := invK I qy
    obtain ⟨its3, rv3, p3, _, _⟩ := invK I qz
    obtain ⟨u1, hu1, ru1⟩ := rv1.get hx
    obtain ⟨u2, hu2, ru2⟩ := rv2.get hy
    obtain ⟨u3, hu3, ru3⟩ := rv3.get ht
    have hh : X.A.in1.handled = none := I.ok.hd hc
    have l1 : i < its1.toArray.size := by simpa using (List.getElem?_eq_some_iff.mp hu1).1
    have l2 : i < its2.toArray.size := by simpa using (List.getElem?_eq_some_iff.mp hu2).1
    have l3 : i < its3.toArray.size := by simpa using (List.getElem?_eq_some_iff.mp hu3).1
    have zlt : z < s.heap.objs.size := Heap.lt_size hz
    refine wpAny_pyNext_zipD3_item S (drawsK hh i1 a n1 its1.toArray k1) (drawsK hh i2 b n2 its2.toArray k2) (drawsK hh i3 c n3 its3.toArray k3) hz hTI hTO ⟨h1, p1⟩ ⟨h2, p2⟩ ⟨h3, p3⟩ l1 l2 l3 fun v1 v2 v3 h' tk pv1 pv2 pv3 z' TO' s1 s2 s3 hT hsz hk => ?_
    have e1 : v1 = u1 := by simpa [hu1] using pv1.symm
    have e2 : v2 = u2 := by simpa [hu2] using pv2.symm
    have e3 : v3 = u3 := by simpa [hu3] using pv3.symm
    subst e1 e2 e3
    refine ⟨_, rfl, wpAny_letOwnedTupleGo_zip (s := { s with heap := h', toks := tk }) z' fun h'' z'' sb => ?_⟩
    have hT2 := (sb.2 _ (Nat.ne_of_gt zlt)).trans hT
    have new : ObjOk X.prog X.w (upd H s.heap.objs.size (.tup [x, y, t])) h'' s.heap.objs.size (.tup [x, y, t]) :=
      ⟨by show 3 ≤ sizeLine; decide, [v1, v2, v3], .cons ru1 (.cons ru2 (.cons ru3 .nil)), ⟨_, hT2, rfl, _, rfl⟩⟩
    have stay : ∀ q o, q ∉ [z, TI, TO, i1, i2, i3] → s.heap.get? q = some o → h''.get? q = some o := fun q o hq e => by
      simp only [List.mem_cons, List.mem_nil_iff, or_false, not_or] at hq
      exact (sb.2 q hq.1).trans (hk q o hq.1 hq.2.2.1 hq.2.2.2.1 hq.2.2.2.2.1 hq.2.2.2.2.2 e)
    have I1 := I.turnedNew (t' := tk) (ch := [z, TI, TO, i1, i2, i3]) stay hf (Nat.le_refl _) new
    refine ⟨.ref s.heap.objs.size, _, I1, rfl, ⟨_, x, y, t, rfl, I.hok.fresh (Nat.le_refl _), rfl, fun l hl => by rw [injK I hl qx]; exact hx, fun l hl => by rw [injK I hl qy]; exact hy, fun l hl => by rw [injK I hl qz]; exact ht⟩, ⟨z'', ?_, ⟨v1, v2, v3, ?_⟩, ?_, ?_, ?_⟩, fun q hqm => ?_⟩
    · exact (sb.2 _ S.TIz).trans (hk _ _ S.TIz S.TITO S.TIi1 S.TIi2 S.TIi3 hTI)
    · exact (sb.2 _ S.TOz).trans TO'
    · exact iterK_at s1.1 fun o q => (sb.2 _ S.zi1.symm).trans q
    · exact iterK_at s2.1 fun o q => (sb.2 _ S.zi2.symm).trans q
    · exact iterK_at s3.1 fun o q => (sb.2 _ S.zi3.symm).trans q
    · have hlt : q < s.heap.objs.size := by
        simp only [List.mem_cons, List.mem_nil_iff, or_false] at hqm
        rcases hqm with rfl | rfl | rfl | rfl | rfl | rfl
        · exact zlt
        · exact Heap.lt_size hTI
        · exact Heap.lt_size hTO
        · obtain ⟨_, e, _⟩ := iterK_obj h1; exact Heap.lt_size e
        · obtain ⟨_, e, _⟩ := iterK_obj h2; exact Heap.lt_size e
        · obtain ⟨_, e, _⟩ := iterK_obj h3; exact Heap.lt_size e
      rw [upd_ne (Nat.ne_of_lt hlt)]
      exact (hf q hqm).1
  done := by
    intro X hP hw hK hc i pins s σ H E I hf st hg
    subst hP hw hK
    obtain ⟨hz, hTI, ⟨x0, y0, u0, hTO⟩, h1, h2, h3⟩ := st
    obtain ⟨xs, ys, zs, qx, qy, qz, le1, le2, le3, hend⟩ := hg
    obtain ⟨its1, rv1, p1, _, _⟩ := invK I qx
    obtain ⟨its2, rv2, p2, _, _⟩ := invK I qy
    obtain ⟨its3, rv3, p3, _, _⟩ := invK I qz
    have hh : X.A.in1.handled = none := I.ok.hd hc
    have e1 := rv1.length
    have e2 := rv2.length
    have e3 := rv3.length
    refine wpAny_pyNext_zipD3_end S (drawsK hh i1 a n1 its1.toArray k1) (drawsK hh i2 b n2 its2.toArray k2) (drawsK hh i3 c n3 its3.toArray k3) hz hTI hTO ⟨h1, p1⟩ ⟨h2, p2⟩ ⟨h3, p3⟩ (by simp; omega) (by simp; omega) (by simp; omega) (by simp; omega) fun h' tk hk => ⟨rfl, ?_⟩
    refine I.turnedL (t' := tk) (ch := [z, TI, TO, i1, i2, i3]) (fun q o hq e => ?_) hf
    simp only [List.mem_cons, List.mem_nil_iff, or_false, not_or] at hq
    exact hk q o hq.1 hq.2.2.1 hq.2.2.2.1 hq.2.2.2.2.1 hq.2.2.2.2.2 e
  self := fun A i s Q E st h => wpAny_pyIter_zip st.1 h
def iZip3 (K : PySem.W.Frag) (k1 k2 k3 : Kd) (ta : TA) : TI := fun σ H R => ta σ H fun vs H1 => ∃ a b c xs ys zs, vs = [.ref a, .ref b, .ref c] ∧ SqK K H1 a xs k1 ∧ SqK K H1 b ys k2 ∧ SqK K H1 c zs k3 ∧ R (Itz3 K k1 k2 k3 a b c) H1
theorem vals3 {x y z : V} {us : List Value} (r : Vals [x, y, z] us) : ∃ u v w, us = [u, v, w] ∧ RelV x u ∧ RelV y v ∧ RelV z w := by
  cases r with
  | cons a r =>
    obtain ⟨u, v, rfl, b, c⟩ := vals2 r
    exact ⟨_, u, v, rfl, a, b, c⟩
theorem pi_zip3 {X : Cx} {e e2 e3 : Expr} {ta : TA} {p pos tpos : Pos} {elts : List Expr} {kk : Nat} (k1 k2 k3 : Kd) (hg : Gl X "zip") (hm : X.mg "zip" = none) (ha : PA X [e, e2, e3] ta)
    (hs : starEach [e, e2, e3] X.env = (false, eval e X.env) :: starEach [e2, e3] X.env := by rfl) (hpl : (backTo pos (starEach [e2, e3] X.env)).any (·.1) = false := by rfl) :
    PI X (.Tuple elts kk tpos) (.Call (.Name "zip" p) [e, e2, e3] [] pos) (iZip3 X.K k1 k2 k3 ta) := by
  refine ⟨fun pins s σ H R I h => ?_⟩
  refine Call_ (ld_blt I hg hm PyProof.Rows.boot_zip (PyProof.Rows.callWith_type1 (thn (ha.run pos pins s σ H _ I h) fun us s1 ⟨vs, H1, I1, r1, q1⟩ => ?_) hs hpl))
  obtain ⟨a, b, c, xs, ys, zs, ex, qx, qy, qz, q⟩ := q1
  subst ex
  obtain ⟨u1, u2, u3, rfl, ra, rb, rc⟩ := vals3 r1
  cases (show u1 = Value.ref a from ra)
  cases (show u2 = Value.ref b from rb)
  cases (show u3 = Value.ref c from rc)
  obtain ⟨its1, rv1, p1, _, la⟩ := invK I1 qx
  obtain ⟨its2, rv2, p2, _, lb⟩ := invK I1 qy
  obtain ⟨its3, rv3, p3, _, lc⟩ := invK I1 qz
  generalize hN : s1.heap.objs.size = N at la lb lc
  have fresh : ∀ q, q ∈ [N + 5, N + 3, N + 4, N, N + 1, N + 2] → FpOk X pins H1 q := fun q hq => by
    have hle : s1.heap.objs.size ≤ q := by
      simp only [List.mem_cons, List.mem_nil_iff, or_false] at hq
      omega
    exact I1.fpOk hle (I1.hok.fresh hle)
  refine zip_begins3 (beginsK a its1.toArray k1) (beginsK b its2.toArray k2) (beginsK c its3.toArray k3) p1 p2 p3 fun h' hz hTI hTO g1 g2 g3 hsz hk => wpAny_pyIter_zip hz ?_
  rw [hN] at hz hTI hTO g1 g2 g3 ⊢
  have I2 : Inv X pins σ H1 { s1 with heap := h' } := I1.kept (t' := s1.toks) hk
  exact ⟨N + 5, [N + 5, N + 3, N + 4, N, N + 1, N + 2], _, _, H1, rfl, I2, turn_z3 (zip_sep3 (fp1 := [a]) (fp2 := [b]) (fp3 := [c]) (by simpa using la) (by simpa using lb) (by simpa using lc)) (Nat.ne_of_lt la) (Nat.ne_of_lt (Nat.lt_succ_of_lt lb))
    (Nat.ne_of_lt (Nat.lt_succ_of_lt (Nat.lt_succ_of_lt lc))), ⟨hz, hTI, ⟨_, _, _, hTO⟩, iterK_first g1, iterK_first g2, iterK_first g3⟩, fresh, q⟩
/-- a comprehension with a test: what is known of the list so far after i turns -/
theorem lc_growF {J : It} {g : TG} {tt : TT} {te : TE} {vs : List Nat} {σ : L2.St} {H1 : Hp} {D : Addr} {Qd : Hp → Prop} (n : Nat) (hn : n < sizeLine) (I : Nat → List V → Hp → Prop) (h0 : I 0 [] (upd H1 D (.lst [])))
    (hgo : ∀ i acc H, i < n → I i acc H → J.go i H) (hstop : ∀ acc H, I n acc H → J.stop n H)
    (hs : ∀ i H x H' acc, i < n → I i acc H → H D = some (.lst acc) → acc.length ≤ i → J.yld i H x H' → ∀ N : Hp → Prop, (∀ H4 acc', I (i + 1) acc' H4 → H4 D = some (.lst acc') → acc'.length ≤ i + 1 → N H4) →
      g x (wipe σ vs) H' fun σ2 H2 => wipe σ2 vs = wipe σ vs ∧ tt σ2 H2 fun b H3 => if b = true then te σ2 H3 fun y H4 => ∃ acc, H4 D = some (.lst acc) ∧ acc.length < sizeLine ∧ N (upd H4 D (.lst (acc ++ [y]))) else N H3)
    (hd : ∀ H acc, I n acc H → H D = some (.lst acc) → acc.length ≤ n → Qd H) :
    ∃ W : Nat → Nat → Hp → Prop, (∃ m, W 0 m (upd H1 D (.lst []))) ∧ ∀ i m H, W i m H →
      (J.stop i H ∧ Qd H) ∨ (J.go i H ∧ ∃ Nx : Hp → Prop, (∀ H', Nx H' → ∃ m', m' < m ∧ W (i + 1) m' H') ∧ ∀ x H', J.yld i H x H' → g x (wipe σ vs) H' fun σ2 H2 => wipe σ2 vs = wipe σ vs ∧ tt σ2 H2 fun b H3 =>
        if b = true then te σ2 H3 fun y H4 => ∃ acc, H4 D = some (.lst acc) ∧ acc.length < sizeLine ∧ Nx (upd H4 D (.lst (acc ++ [y]))) else Nx H3) := by
  refine lc_any n (fun i H => ∃ acc, I i acc H ∧ H D = some (.lst acc) ∧ acc.length ≤ i) ⟨[], h0, upd_same, Nat.le_refl _⟩ (fun i H hi ⟨acc, p, _⟩ => hgo i acc H hi p) (fun H ⟨acc, p, _⟩ => hstop acc H p) (fun i H x H' hi ⟨acc, pI, hD, hl⟩ y => ?_) (fun H ⟨acc, p, hD, hl⟩ => hd H acc p hD hl)
  exact hs i H x H' acc hi pI hD hl y _ fun H4 acc' h4 e4 l4 => ⟨acc', h4, e4, l4⟩
end ZK

/-! lists or tuples: walked, cut, zipped; // by any divisor -/
namespace ZK
open PySem PySem.Spec PyProof.Rows L2
def ItS (K : PySem.W.Frag) : Kd → Addr → It
  | .l, a => Itl K a
  | .t, a => Itt K a
def iSeqK (K : PySem.W.Frag) (tl : TE) : TI := fun σ H R => tl σ H fun x H1 => ∃ a k xs, x = .ref a ∧ SqK K H1 a xs k ∧ R (ItS K k a) H1
theorem pi_seqK {X : Cx} {tg l : Expr} {tl : TE} (hl : PE X l tl) : PI X tg l (iSeqK X.K tl) := by
  refine ⟨fun pins s σ H R I h => ?_⟩
  refine thn (hl.run pins s σ H _ I h) fun v s1 ⟨x, H1, I1, r1, q1⟩ => ?_
  obtain ⟨a, k, xs, e, hq, q⟩ := q1
  subst e
  cases r1
  have fin : ∀ b ∈ [s1.heap.objs.size], FpOk X pins H1 b := fun b hb => by
    have e : b = s1.heap.objs.size := by simpa using hb
    subst e
    exact I1.fpOk (Nat.le_refl _) (I1.hok.fresh (Nat.le_refl _))
  cases k with
  | l =>
    obtain ⟨its, rv, p, hz⟩ := I1.list hq
    refine wpAny_pyIter_list p.isList ?_
    exact ⟨s1.heap.objs.size, [s1.heap.objs.size], _, _, H1, rfl, I1.kept (t' := s1.toks) fun b o e => Heap.get?_push_of_some _ e, turn_list a _, ⟨_, Heap.get?_push_size _ rfl, rfl, rfl⟩, fin, q⟩
  | t =>
    obtain ⟨its, rv, p, hz⟩ := I1.tuple hq
    refine wpAny_pyIter_tuple (show s1.heap.IsTuple a its.toArray from p) ?_
    exact ⟨s1.heap.objs.size, [s1.heap.objs.size], _, _, H1, rfl, I1.kept (t' := s1.toks) fun b o e => Heap.get?_push_of_some _ e, turn_tuple a _, ⟨_, Heap.get?_push_size _ rfl, rfl, rfl⟩, fin, q⟩
def iZip2S (K : PySem.W.Frag) (ta : TA) : TI := fun σ H R => ta σ H fun vs H1 => ∃ k1 k2 a b xs ys, vs = [.ref a, .ref b] ∧ SqK K H1 a xs k1 ∧ SqK K H1 b ys k2 ∧ R (Itz2 K k1 k2 a b) H1
theorem pi_zip2S {X : Cx} {e e2 : Expr} {ta : TA} {p pos tpos : Pos} {elts : List Expr} {kk : Nat} (hg : Gl X "zip") (hm : X.mg "zip" = none) (ha : PA X [e, e2] ta)
    (hs : starEach [e, e2] X.env = (false, eval e X.env) :: starEach [e2] X.env := by rfl) (hpl : (backTo pos (starEach [e2] X.env)).any (·.1) = false := by rfl) :
    PI X (.Tuple elts kk tpos) (.Call (.Name "zip" p) [e, e2] [] pos) (iZip2S X.K ta) := by
  refine ⟨fun pins s σ H R I h => ?_⟩
  refine Call_ (ld_blt I hg hm PyProof.Rows.boot_zip (PyProof.Rows.callWith_type1 (thn (ha.run pos pins s σ H _ I h) fun us s1 ⟨vs, H1, I1, r1, q1⟩ => ?_) hs hpl))
  obtain ⟨k1, k2, a, b, xs, ys, ex, qx, qy, q⟩ := q1
  subst ex
  obtain ⟨u1, u2, rfl, ra, rb⟩ := vals2 r1
  cases (show u1 = Value.ref a from ra)
  cases (show u2 = Value.ref b from rb)
  obtain ⟨its1, rv1, p1, _, la⟩ := invK I1 qx
  obtain ⟨its2, rv2, p2, _, lb⟩ := invK I1 qy
  generalize hN : s1.heap.objs.size = N at la lb
  have fresh : ∀ c, c ∈ [N + 4, N + 2, N + 3, N, N + 1] → FpOk X pins H1 c := fun c hc => by
    have hle : s1.heap.objs.size ≤ c := by
      simp only [List.mem_cons, List.mem_nil_iff, or_false] at hc
      omega
    exact I1.fpOk hle (I1.hok.fresh hle)
  refine zip_begins2 (beginsK a its1.toArray k1) (beginsK b its2.toArray k2) p1 p2 fun h' hz hTI hTO g1 g2 hsz hk => wpAny_pyIter_zip hz ?_
  rw [hN] at hz hTI hTO g1 g2 ⊢
  have I2 : Inv X pins σ H1 { s1 with heap := h' } := I1.kept (t' := s1.toks) hk
  exact ⟨N + 4, [N + 4, N + 2, N + 3, N, N + 1], _, _, H1, rfl, I2, turn_z2 (zip_sep2 (fp1 := [a]) (fp2 := [b]) (by simpa using la) (by simpa using lb)) (Nat.ne_of_lt la) (Nat.ne_of_lt (Nat.lt_succ_of_lt lb)), ⟨hz, hTI, ⟨_, _, hTO⟩, iterK_first g1, iterK_first g2⟩, fresh, q⟩
/-- a comprehension over a list or tuple that stays -/
theorem lc_growS {K : PySem.W.Frag} {a : Addr} {xs : List V} {k : Kd} {g : TG} {te : TE} {vs : List Nat} {σ : L2.St} {H1 : Hp} {D : Addr} {Qd : Hp → Prop} (hn : xs.length < sizeLine) (I : Nat → Hp → Prop) (R : Nat → V → Prop) (h0 : I 0 (upd H1 D (.lst [])))
    (hl : ∀ i H, I i H → SqK K H a xs k)
    (hs : ∀ i x H acc, xs[i]? = some x → I i H → H D = some (.lst acc) → acc.length = i → (∀ j y, acc[j]? = some y → R j y) → ∀ Qn : VK,
      (∀ y H4, R i y → H4 D = some (.lst acc) → I (i + 1) (upd H4 D (.lst (acc ++ [y]))) → Qn y H4) → g x (wipe σ vs) H fun σ2 H2 => wipe σ2 vs = wipe σ vs ∧ te σ2 H2 Qn)
    (hd : ∀ H acc, I xs.length H → H D = some (.lst acc) → acc.length = xs.length → (∀ i y, acc[i]? = some y → R i y) → Qd H) :
    ∃ W : Nat → Nat → Hp → Prop, (∃ m, W 0 m (upd H1 D (.lst []))) ∧ ∀ i m H, W i m H →
      ((ItS K k a).stop i H ∧ Qd H) ∨ ((ItS K k a).go i H ∧ ∃ Nx : Hp → Prop, (∀ H', Nx H' → ∃ m', m' < m ∧ W (i + 1) m' H') ∧ ∀ x H', (ItS K k a).yld i H x H' → g x (wipe σ vs) H' fun σ2 H2 => wipe σ2 vs = wipe σ vs ∧ tYes σ2 H2 fun b H3 =>
        if b = true then te σ2 H3 fun y H4 => ∃ acc, H4 D = some (.lst acc) ∧ acc.length < sizeLine ∧ Nx (upd H4 D (.lst (acc ++ [y]))) else Nx H3) := by
  cases k with
  | l => exact lc_growL (K := K) hn I R h0 hl hs hd
  | t => exact lc_growT (K := K) hn I R h0 hl hs hd
/-- a loop over a list or tuple that stays -/
theorem kindOf {K : PySem.W.Frag} {H : Hp} {a : Addr} {xs : List V} (h : SqL K H a xs ∨ SqT K H a xs) : ∃ k, SqK K H a xs k := h.elim (fun h => ⟨.l, h⟩) fun h => ⟨.t, h⟩
theorem kindTo {K : PySem.W.Frag} {H : Hp} {a : Addr} {xs : List V} : ∀ {k : Kd}, SqK K H a xs k → SqL K H a xs ∨ SqT K H a xs
  | .l, h => .inl h
  | .t, h => .inr h
/-- a part of a list or tuple -/
def rSlS (K : PySem.W.Frag) : V → Option Int → Option Int → Hp → VK → Prop := fun x lo hi H Q => rSlL K x lo hi H Q ∨ rSlA K x lo hi H Q
theorem sl_any {X : Cx} : SlR X (rSlS X.K) := sl_list.or sl_tupA
theorem cut_full {xs : List V} {lo hi : Option Int} (h1 : HT.sIx xs.length 0 lo = 0) (h2 : HT.sIx xs.length xs.length hi = xs.length) : cutV xs lo hi = xs := by
  unfold cutV
  rw [h1, h2]
  simp
theorem slS {K : PySem.W.Frag} {H : Hp} {a : Addr} {xs : List V} {lo hi : Option Int} {Q : VK} : ∀ {k : Kd}, SqK K H a xs k → (∀ p H', Same H H' → SqK K H' p (cutV xs lo hi) k → Q (.ref p) H') → rSlS K (.ref a) lo hi H Q
  | .l, h, q => .inl ⟨a, xs, rfl, h, fun p hp => q p _ (fun c o e => by rw [upd_ne (ne_of_none e hp)]; exact e) (SqL.of upd_same)⟩
  | .t, h, q => .inr ⟨a, xs, rfl, h, fun full => q a H (Same.refl H) (by rw [cut_full full.1 full.2]; exact h), fun _ p hp => q p _ (fun c o e => by rw [upd_ne (ne_of_none e hp)]; exact e) (SqT.of upd_same)⟩
/-- // by any divisor below 2 ^ 9000 that is not 0 -/
def CDivZ (_ j : Int) : Prop := j ≠ 0 ∧ j.natAbs.log2 < 9000
theorem op_fdivZ {X : Cx} : OpR X (binaryOp .FloorDiv) (rI CDivZ fun i j => .int (i.fdiv j)) := opI fun i j _ _ _ _ _ hc q => floordiv_int hc.1 q (.inl (PyProof.noPylong_of_log2 hc.2))
theorem divZ {i j : Int} {b : Nat} (h : j ≠ 0) (hb : j.natAbs < 2 ^ b) (h9 : b ≤ 9000) : CDivZ i j := by
  refine ⟨h, ?_⟩
  have : j.natAbs ≠ 0 := by omega
  exact Nat.lt_of_lt_of_le ((Nat.log2_lt this).mpr hb) h9
end ZK

namespace EN
open PySem L2 PyProof.Rows
section
variable {P : Program} {w : World} {K : PySem.W.Frag} {mg : Str → Option Value} {base : Heap} {f : Addr} {fd : FuncData}
theorem SeqI.same {H H' : Hp} {a : Addr} {r : List Int} (s : Same H H') (h : SeqI K H a r) : SeqI K H' a r := h.elim (fun h => .inl (s.seq h)) fun h => .inr (sqT_same s h)
theorem ixS {H : Hp} {a : Addr} {xs : List V} {i : Int} {x : V} {Q : VK} (hS : SqL K H a xs ∨ SqT K H a xs) (at_ : atI xs i = some x) (q : Q x H) : rIx K (.ref a) (.int i) H Q :=
  hS.elim (fun h => .inl ⟨a, _, _, _, rfl, rfl, h, at_, q⟩) fun h => .inr (.inl ⟨a, _, _, _, rfl, rfl, h, at_, q⟩)
theorem lensI {r : List Int} : (r.map V.int).length = r.length := List.length_map ..
abbrev s_chooses : Stmt := top 11
abbrev N_chooses : List Str := ["n", "many", "found", "worth", "k"]
theorem sc_chooses : FnScope N_chooses ["n", "many"] (defScope s_chooses) := ⟨rfl, rfl, rfl, by decide +kernel, rfl, by decide +kernel, by decide +kernel⟩

theorem ok_chooses (F : Fun K "chooses" "chooses" s_chooses f fd) (T : Blt mg) : FnOk P w K mg base CX0 1 f fd ["n", "many"] spChs := by
  refine F.ok sc_chooses (fun vs H Q E h => ?_) (fun cdv A outer s H vs Q E hr h => ?_)
  · obtain ⟨n, m, b, rfl, _⟩ := h
    rfl
  · obtain ⟨n, m, b, rfl, hm, hb, hb2, hn, k⟩ := h
    refine ⟨_, (pss_cons (ps_set (i := 2) sc_chooses.nd rfl (Or.inl rfl) (pe_lst pa_nil))
    (pss_cons (ps_set (i := 3) sc_chooses.nd rfl (Or.inl rfl) pe_int)
    (pss_cons (ps_for PassesOwn.never rfl (pi_range1 (by rfl) T.range_ (pa_cons (pv 1) pa_nil)) (pg_name (i := 4) sc_chooses.nd rfl (Or.inl rfl))
      (pss_cons (ps_if (pt_cmpR op_gt (pv 4) pe_int (nomark _))
        (pss_one (ps_set (i := 3) sc_chooses.nd rfl (Or.inl rfl) (pe_op op_fdivW (pe_op op_mulW (pv 3) (pe_op op_add (pe_op op_sub (pv 0) (pv 4)) pe_int)) (pv 4))))
        pss_nil)
      (pss_one (ps_expr (pe_bm PySem.F.plainAttrs_list PySem.F.slot_list_append PySem.F.type_list_append mt_append (pv 2) (pa_cons (pv 3) pa_nil))))))
    (pss_one (ps_ret (pv 2)))))), ?_⟩
    refine ⟨(by show 0 ≤ sizeLine; decide), fun d hd => ?_⟩
    refine ⟨_, rfl, (m : Int), rfl, by omega, by omega, ?_⟩
    rw [show ((m : Int)).toNat = m by omega]
    refine for_range (lo := 0) (n := m) (fun i σ H' => ∃ v : Option V, Same H H' ∧ H' d = some (.lst (((List.range i).map fun k => M.C n k).map V.int)) ∧ σ = [some (.int n), some (.int (m : Int)), some (.ref d), some (.int (M.C n (i - 1))), v]) ⟨none, same_new (Same.refl H) _ hd, upd_same, by rw [M.C_zero]; rfl⟩ ?_ ?_
    · rintro i σ H1 hi ⟨v, s1, h1, rfl⟩
      rw [Int.zero_add]
      have fin : ∀ σ', σ' = [some (.int n), some (.int (m : Int)), some (.ref d), some (.int (M.C n i)), some (V.int (i : Int))] → ∃ v : Option V, Same H (upd H1 d (.lst (((List.range i).map fun k => M.C n k).map V.int ++ [.int (M.C n i)]))) ∧
          (upd H1 d (.lst (((List.range i).map fun k => M.C n k).map V.int ++ [.int (M.C n i)]))) d = some (.lst (((List.range (i + 1)).map fun k => M.C n k).map V.int)) ∧ σ' = [some (.int n), some (.int (m : Int)), some (.ref d), some (.int (M.C n (i + 1 - 1))), v] := fun σ' e => by
        refine ⟨_, same_but_new s1 hd, ?_, e⟩
        rw [upd_same, List.range_succ, List.map_append, List.map_append]
        rfl
      refine ⟨_, rfl, _, _, rfl, rfl, _, rfl, ?_⟩
      have hlen : (((List.range i).map fun k => M.C n k).map V.int).length < sizeLine := small1000 (by rw [List.length_map, List.length_map, List.length_range]; omega)
      refine ite2 (fun h2 => ?_) (fun h2 => ?_)
      · have h3 : 0 < (i : Int) := of_decide_eq_true h2
        obtain ⟨j, rfl⟩ : ∃ j, i = j + 1 := ⟨i - 1, by omega⟩
        have hs := Cb hb hn (k := j) (by omega)
        have s2 : Sz (b + 2) (n - ((j + 1 : Nat) : Int) + 1) := Sz.add (a := b + 1) (Sz.sub hn (Sz.mono (a := 6) (by unfold Sz; omega) hb)) (Sz.mono (a := 1) (by unfold Sz; decide) (by omega))
        have hbj : (b + 1) * j + 1 + (b + 2) ≤ 999990 := by
          have : (b + 1) * j ≤ 10001 * 64 := Nat.mul_le_mul (by omega) (by omega)
          omega
        refine ⟨_, rfl, _, rfl, _, rfl, _, _, rfl, rfl, _, _, rfl, rfl, _, _, rfl, rfl, hs.mulOk s2 hbj, _, rfl, _, _, rfl, rfl, divW 10 h3 (by show ((j + 1 : Nat) : Int).natAbs < 2 ^ 10; omega) (by decide), ?_⟩
        have e : M.C n j * (n - ((j + 1 : Nat) : Int) + 1) / ((j + 1 : Nat) : Int) = M.C n (j + 1) := by
          have := M.C_next n j
          rw [show n - ((j + 1 : Nat) : Int) + 1 = n - (j : Int) by omega]
          exact this
        rw [← e] at fin
        exact ⟨_, rfl, .inl ⟨rfl, _, .inl (.inl h1)⟩, _, rfl, d, _, _, rfl, rfl, h1, hlen, fin _ rfl⟩
      · obtain rfl : i = 0 := by
          have : ¬ (0 < (i : Int)) := fun z => h2 (decide_eq_true z)
          omega
        exact ⟨_, rfl, .inl ⟨rfl, _, .inl (.inl h1)⟩, _, rfl, d, _, _, rfl, rfl, h1, hlen, fin _ rfl⟩
    · rintro σ H1 ⟨v, s1, h1, rfl⟩
      exact ⟨_, rfl, k d H1 s1 hd h1⟩
abbrev s_row_value : Stmt := top 12
abbrev N_row_value : List Str := ["row", "n", "count", "worth"]
theorem sc_row_value : FnScope N_row_value ["row", "n"] (defScope s_row_value) := ⟨rfl, rfl, rfl, by decide +kernel, rfl, by decide +kernel, by decide +kernel⟩

theorem get_C {n : Int} {m i : Nat} (h : i < m) : (((List.range m).map fun k => M.C n k).map V.int)[i]? = some (.int (M.C n i)) := by
  rw [List.getElem?_map, List.getElem?_map, List.getElem?_range h]
  rfl
theorem ok_row_value (F : Fun K "row_value" "row_value" s_row_value f fd) (T : Blt mg) (G_chooses : Has P w K mg base 1 "chooses" ["n", "many"] spChs) : FnOk P w K mg base CX0 2 f fd ["row", "n"] (spRowV K) := by
  refine F.ok sc_row_value (fun vs H Q E h => ?_) (fun cdv A outer s H vs Q E hr h => ?_)
  · obtain ⟨a, r, n, b, c, rfl, _⟩ := h
    rfl
  · obtain ⟨a, r, n, b, c, rfl, hS, hl, hx, hc, hb, hb2, hn, k⟩ := h
    obtain ⟨ka, hS⟩ := ZK.kindOf hS
    refine ⟨_, (pss_one (ps_ret (pe_callB (show CallR _ _ (rSum K) from cr_sum rfl) (by rfl) T.sum_ (by decide +kernel) (pa_cons (pe_lc (own := [("count", 2), ("worth", 3)]) (g := gTup K 2 (gCons (gName 2) (gCons (gName 3) gNil))) (tt := tYes) (by rfl) sc_row_value.nd (ZK.pi_zip2S (by rfl) T.zip_ (pa_cons (pv 0) (pa_cons (pe_has G_chooses (hr.mono (by decide)) (pa_cons (pv 1) (pa_cons (pe_callB (show CallR _ _ (rLenQ K) from c_len) (by rfl) T.len_ (by decide +kernel) (pa_cons (pv 0) pa_nil)) pa_nil))) pa_nil))) (blkOk_by (own := [("count", 2), ("worth", 3)]) (N := N_row_value) (sc := defScope s_row_value) (by decide +kernel)) (fun _ _ _ _ _ => (pg_tup rfl (pgs_cons (pg_name (i := 2) sc_row_value.nd rfl (by first | exact Or.inl rfl | exact Or.inr rfl)) (pgs_cons (pg_name (i := 3) sc_row_value.nd rfl (by first | exact Or.inl rfl | exact Or.inr rfl)) pgs_nil)))) (fun _ _ _ _ _ => pts_nil) (fun _ _ _ _ _ => (pe_op op_mulW (pv 2) (pv 3)))) pa_nil)))), ?_⟩
    refine ⟨_, rfl, _, rfl, _, rfl, a, _, rfl, ZK.kindTo hS, n, r.length, b, by rw [List.length_map]; rfl, by omega, hb, hb2, hn, fun l H1 s1 hl1 h1 => ?_⟩
    have hS1 := hS.same s1
    refine ⟨ka, .l, a, l, _, _, rfl, hS1, SqL.of h1, fun D hD => ?_⟩
    refine ZK.lc_grow (J := ZK.Itz2 K ka .l a l) r.length (small1000 (by omega)) (fun _ H' => Same H1 H') (fun i y => y = .int (r.getD i 0 * M.C n i)) (same_new (Same.refl _) _ hD) ?_ ?_ ?_ ?_
    · intro i H2 hi s2
      exact ⟨_, _, _, _, hS1.same s2, SqL.of (s2 _ _ h1), (get_int hi).1, get_C hi⟩
    · intro H2 s2
      refine ⟨_, _, hS1.same s2, SqL.of (s2 _ _ h1), ?_⟩
      simp
    · rintro i H2 x H3 acc hi s2 hacc hal hR ⟨t, u, v, rfl, ht, rfl, gu, gv⟩ Qn hq
      have eu := gu _ (hS1.same s2)
      have ev := gv _ (SqL.of (s2 _ _ h1))
      rw [(get_int hi).1] at eu
      cases eu
      rw [get_C hi] at ev
      cases ev
      have nD : D ≠ t := ne_of_none hacc ht
      refine ⟨t, _, rfl, SqT.of upd_same, rfl, _, _, rfl, _, _, rfl, rfl, rfl, ?_⟩
      refine ⟨_, rfl, _, rfl, _, _, rfl, rfl, (hx.get i).mulOk (Cb16 hb hn (by omega)) (by omega), hq _ _ rfl (by rw [upd_ne nD]; exact hacc) ?_⟩
      exact same_but_new (same_new s2 _ ht) hD
    · intro H2 acc s2 hacc hal hR
      have e := ZK.eq_map hal hR
      refine ⟨D, (List.range r.length).map (fun k => r.getD k 0 * M.C n k), rfl, SqL.of ?_, ?_⟩
      · rw [hacc, e, List.map_map]
        rfl
      · rw [← M.val_sum]
        exact k _ (s1.trans s2)
end
end EN

namespace EN
open PySem L2 PyProof.Rows
section
variable {P : Program} {w : World} {K : PySem.W.Frag} {mg : Str → Option Value} {base : Heap} {f : Addr} {fd : FuncData}
abbrev s_row_sum : Stmt := top 13
abbrev N_row_sum : List Str := ["row", "other", "k"]
theorem sc_row_sum : FnScope N_row_sum ["row", "other"] (defScope s_row_sum) := ⟨rfl, rfl, rfl, by decide +kernel, rfl, by decide +kernel, by decide +kernel⟩

theorem ok_row_sum1 (F : Fun K "row_sum" "row_sum" s_row_sum f fd) (T : Blt mg) : FnOk P w K mg base CX0 1 f fd ["row", "other"] (spRowSum1 K) := by
  refine F.ok sc_row_sum (fun vs H Q E h => ?_) (fun cdv A outer s H vs Q E hr h => ?_)
  · obtain ⟨a, a', r, s, rfl, _⟩ := h
    rfl
  · obtain ⟨a, a', r, s', rfl, hS, hS', hls, hl, k⟩ := h
    refine ⟨_, (pss_cons (ps_if (pt_cmpR op_lt (pe_callB (show CallR _ _ (rLenQ K) from c_len) (by rfl) T.len_ (by decide +kernel) (pa_cons (pv 0) pa_nil)) (pe_callB (show CallR _ _ (rLenQ K) from c_len) (by rfl) T.len_ (by decide +kernel) (pa_cons (pv 1) pa_nil)) (nomark _))
      (pss_one ps_never)
      pss_nil)
    (pss_one (ps_ret (pe_lc (own := [("k", 2)]) (g := gName 2) (tt := tYes) (by rfl) sc_row_sum.nd (pi_range1 (by rfl) T.range_ (pa_cons (pe_callB (show CallR _ _ (rLenQ K) from c_len) (by rfl) T.len_ (by decide +kernel) (pa_cons (pv 0) pa_nil)) pa_nil)) (blkOk_by (own := [("k", 2)]) (N := N_row_sum) (sc := defScope s_row_sum) (by decide +kernel)) (fun _ _ _ _ _ => (pg_name (i := 2) sc_row_sum.nd rfl (by first | exact Or.inl rfl | exact Or.inr rfl))) (fun _ _ _ _ _ => pts_nil) (fun _ _ _ _ _ => (pe_ifExp (pt_cmpR op_lt (pv 2) (pe_callB (show CallR _ _ (rLenQ K) from c_len) (by rfl) T.len_ (by decide +kernel) (pa_cons (pv 1) pa_nil)) (nomark _)) (pe_op op_add (pe_ix (show IxR _ (rIx K) from ix_seq) (pv 0) (pv 2) (fun _ _ => rfl)) (pe_ix (show IxR _ (rIx K) from ix_seq) (pv 1) (pv 2) (fun _ _ => rfl))) (pe_ix (show IxR _ (rIx K) from ix_seq) (pv 0) (pv 2) (fun _ _ => rfl)))))))), ?_⟩
    refine ⟨_, rfl, a, _, rfl, hS, _, rfl, a', _, rfl, hS', _, _, rfl, rfl, _, rfl, ?_⟩
    rw [List.length_map, List.length_map, decide_eq_false (by omega)]
    refine iteF ⟨_, rfl, a, _, rfl, hS, (r.length : Int), by rw [List.length_map], by omega, by omega, fun D hD => ?_⟩
    rw [show (r.length : Int).toNat = r.length by omega]
    refine ZK.lc_growR r.length (small1000 (by omega)) (fun _ H' => Same H H') (fun i y => y = .int (if i < s'.length then r.getD i 0 + s'.getD i 0 else r.getD i 0)) (same_new (Same.refl _) _ hD) ?_ ?_
    · intro i H1 acc hi s1 hacc hal hR Qn hq
      have g0 := (get_int (r := r) (e := i) hi).1
      refine ⟨rfl, _, rfl, _, rfl, a', _, rfl, SeqI.same s1 hS', _, _, rfl, rfl, _, rfl, ?_⟩
      rw [List.length_map]
      by_cases z : i < s'.length
      · have g1 := (get_int (r := s') (e := i) z).1
        rw [decide_eq_true (by omega)]
        refine iteT ⟨_, rfl, _, rfl, ixS (SeqI.same s1 hS) (at_of (by omega) g0) ⟨_, rfl, _, rfl, ixS (SeqI.same s1 hS') (at_of (by omega) g1) ⟨_, _, rfl, rfl, ?_⟩⟩⟩
        exact hq _ _ (by rw [if_pos z]) hacc (same_but_new s1 hD)
      · rw [decide_eq_false (by omega)]
        refine iteF ⟨_, rfl, _, rfl, ixS (SeqI.same s1 hS) (at_of (by omega) g0) ?_⟩
        exact hq _ _ (by rw [if_neg z]) hacc (same_but_new s1 hD)
    · intro H1 acc s1 hacc hal hR
      have e := ZK.eq_map hal hR
      refine k D H1 s1 hD ?_
      rw [hacc, e]
      unfold M.add
      rw [List.map_map]
      rfl
theorem ok_row_sum (F : Fun K "row_sum" "row_sum" s_row_sum f fd) (T : Blt mg) (G_row_sum : Has P w K mg base 1 "row_sum" ["row", "other"] (spRowSum1 K)) : FnOk P w K mg base CX0 2 f fd ["row", "other"] (spRowSum K) := by
  refine F.ok sc_row_sum (fun vs H Q E h => ?_) (fun cdv A outer s H vs Q E hr h => ?_)
  · obtain ⟨a, a', r, s, rfl, _⟩ := h
    rfl
  · obtain ⟨a, a', r, s', rfl, hS, hS', hl, hl', k⟩ := h
    refine ⟨_, (pss_cons (ps_if (pt_cmpR op_lt (pe_callB (show CallR _ _ (rLenQ K) from c_len) (by rfl) T.len_ (by decide +kernel) (pa_cons (pv 0) pa_nil)) (pe_callB (show CallR _ _ (rLenQ K) from c_len) (by rfl) T.len_ (by decide +kernel) (pa_cons (pv 1) pa_nil)) (nomark _))
      (pss_one (ps_ret (pe_has G_row_sum (hr.mono (by decide)) (pa_cons (pv 1) (pa_cons (pv 0) pa_nil)))))
      pss_nil)
    (pss_one (ps_ret (pe_lc (own := [("k", 2)]) (g := gName 2) (tt := tYes) (by rfl) sc_row_sum.nd (pi_range1 (by rfl) T.range_ (pa_cons (pe_callB (show CallR _ _ (rLenQ K) from c_len) (by rfl) T.len_ (by decide +kernel) (pa_cons (pv 0) pa_nil)) pa_nil)) (blkOk_by (own := [("k", 2)]) (N := N_row_sum) (sc := defScope s_row_sum) (by decide +kernel)) (fun _ _ _ _ _ => (pg_name (i := 2) sc_row_sum.nd rfl (by first | exact Or.inl rfl | exact Or.inr rfl))) (fun _ _ _ _ _ => pts_nil) (fun _ _ _ _ _ => (pe_ifExp (pt_cmpR op_lt (pv 2) (pe_callB (show CallR _ _ (rLenQ K) from c_len) (by rfl) T.len_ (by decide +kernel) (pa_cons (pv 1) pa_nil)) (nomark _)) (pe_op op_add (pe_ix (show IxR _ (rIx K) from ix_seq) (pv 0) (pv 2) (fun _ _ => rfl)) (pe_ix (show IxR _ (rIx K) from ix_seq) (pv 1) (pv 2) (fun _ _ => rfl))) (pe_ix (show IxR _ (rIx K) from ix_seq) (pv 0) (pv 2) (fun _ _ => rfl)))))))), ?_⟩
    refine ⟨_, rfl, a, _, rfl, hS, _, rfl, a', _, rfl, hS', _, _, rfl, rfl, _, rfl, ?_⟩
    rw [List.length_map, List.length_map]
    by_cases z : r.length < s'.length
    · rw [decide_eq_true (by omega)]
      refine iteT ⟨_, rfl, _, rfl, a', a, s', r, rfl, hS', hS, by omega, by omega, fun l H' s1 nl hl => k l H' s1 nl ?_⟩
      rw [hl, M.plus, if_pos z]
    rw [decide_eq_false (by omega)]
    refine iteF ⟨_, rfl, a, _, rfl, hS, (r.length : Int), by rw [List.length_map], by omega, by omega, fun D hD => ?_⟩
    rw [show (r.length : Int).toNat = r.length by omega]
    refine ZK.lc_growR r.length (small1000 (by omega)) (fun _ H' => Same H H') (fun i y => y = .int (if i < s'.length then r.getD i 0 + s'.getD i 0 else r.getD i 0)) (same_new (Same.refl _) _ hD) ?_ ?_
    · intro i H1 acc hi s1 hacc hal hR Qn hq
      have g0 := (get_int (r := r) (e := i) hi).1
      refine ⟨rfl, _, rfl, _, rfl, a', _, rfl, SeqI.same s1 hS', _, _, rfl, rfl, _, rfl, ?_⟩
      rw [List.length_map]
      by_cases z : i < s'.length
      · have g1 := (get_int (r := s') (e := i) z).1
        rw [decide_eq_true (by omega)]
        refine iteT ⟨_, rfl, _, rfl, ixS (SeqI.same s1 hS) (at_of (by omega) g0) ⟨_, rfl, _, rfl, ixS (SeqI.same s1 hS') (at_of (by omega) g1) ⟨_, _, rfl, rfl, ?_⟩⟩⟩
        exact hq _ _ (by rw [if_pos z]) hacc (same_but_new s1 hD)
      · rw [decide_eq_false (by omega)]
        refine iteF ⟨_, rfl, _, rfl, ixS (SeqI.same s1 hS) (at_of (by omega) g0) ?_⟩
        exact hq _ _ (by rw [if_neg z]) hacc (same_but_new s1 hD)
    · intro H1 acc s1 hacc hal hR
      have e := ZK.eq_map hal hR
      refine k D H1 s1 hD ?_
      rw [hacc, e, M.plus, if_neg z]
      unfold M.add
      rw [List.map_map]
      rfl
abbrev s_row_times : Stmt := top 14
abbrev N_row_times : List Str := ["row", "factor", "count"]
theorem sc_row_times : FnScope N_row_times ["row", "factor"] (defScope s_row_times) := ⟨rfl, rfl, rfl, by decide +kernel, rfl, by decide +kernel, by decide +kernel⟩

theorem range_ints (r : List Int) (g : Int → Int) : (List.range r.length).map (fun i => V.int (g (r.getD i 0))) = (r.map g).map V.int := by
  refine List.ext_getElem? fun i => ?_
  by_cases h : i < r.length
  · rw [List.getElem?_map, List.getElem?_range h, List.getElem?_map, List.getElem?_map, List.getElem?_eq_getElem h]
    show some (V.int (g (r.getD i 0))) = some (V.int (g r[i]))
    rw [List.getD_eq_getElem?_getD, List.getElem?_eq_getElem h]
    rfl
  · rw [List.getElem?_eq_none (by simp; omega), List.getElem?_eq_none (by simp; omega)]
theorem ok_row_times (F : Fun K "row_times" "row_times" s_row_times f fd) (T : Blt mg) : FnOk P w K mg base CX0 1 f fd ["row", "factor"] (spRowTimes K) := by
  refine F.ok sc_row_times (fun vs H Q E h => ?_) (fun cdv A outer s H vs Q E hr h => ?_)
  · obtain ⟨a, r, k, c, d, rfl, _⟩ := h
    rfl
  · obtain ⟨a, r, k, c, d, rfl, hS, hl, hx, hk, hcd, q⟩ := h
    obtain ⟨ka, hS⟩ := ZK.kindOf hS
    refine ⟨_, (pss_one (ps_ret (pe_lc (own := [("count", 2)]) (g := gName 2) (tt := tYes) (by rfl) sc_row_times.nd (ZK.pi_seqK (pv 0)) (blkOk_by (own := [("count", 2)]) (N := N_row_times) (sc := defScope s_row_times) (by decide +kernel)) (fun _ _ _ _ _ => (pg_name (i := 2) sc_row_times.nd rfl (by first | exact Or.inl rfl | exact Or.inr rfl))) (fun _ _ _ _ _ => pts_nil) (fun _ _ _ _ _ => (pe_op op_mulW (pv 2) (pv 1)))))), ?_⟩
    refine ⟨_, rfl, a, ka, _, rfl, hS, fun D hD => ?_⟩
    refine ZK.lc_growS (K := K) (a := a) (k := ka) (xs := r.map V.int) (small1000 (by rw [List.length_map]; omega)) (fun _ H' => Same H H') (fun i y => y = .int (r.getD i 0 * k)) (same_new (Same.refl _) _ hD) (fun i H' s' => hS.same s') ?_ ?_
    · intro i x H1 acc hx1 s1 hacc hal hR Qn hq
      obtain ⟨hi, rfl⟩ := int_at hx1
      exact ⟨rfl, _, rfl, _, rfl, _, _, rfl, rfl, (hx.get i).mulOk hk (by omega), hq _ _ rfl hacc (same_but_new s1 hD)⟩
    · intro H1 acc s1 hacc hal hR
      have e := ZK.eq_map hal hR
      refine q D H1 s1 hD ?_
      rw [hacc, e, List.length_map, range_ints r fun a => a * k]
      rfl
abbrev s_row_less : Stmt := top 32
abbrev N_row_less : List Str := ["row", "other"]
theorem sc_row_less : FnScope N_row_less ["row", "other"] (defScope s_row_less) := ⟨rfl, rfl, rfl, by decide +kernel, rfl, by decide +kernel, by decide +kernel⟩

theorem ok_row_less (F : Fun K "row_less" "row_less" s_row_less f fd) (T : Blt mg) (G_row_sum : Has P w K mg base 2 "row_sum" ["row", "other"] (spRowSum K)) (G_row_times : Has P w K mg base 1 "row_times" ["row", "factor"] (spRowTimes K)) : FnOk P w K mg base CX0 3 f fd ["row", "other"] (spRowLess K) := by
  refine F.ok sc_row_less (fun vs H Q E h => ?_) (fun cdv A outer s H vs Q E hr h => ?_)
  · obtain ⟨a, a', r, s, c, rfl, _⟩ := h
    rfl
  · obtain ⟨a, a', r, s', c, rfl, hS, hS', hl, hl', hx, hc, k⟩ := h
    refine ⟨_, (pss_one (ps_ret (pe_has G_row_sum (hr.mono (by decide)) (pa_cons (pv 0) (pa_cons (pe_has G_row_times (hr.mono (by decide)) (pa_cons (pv 1) (pa_cons (pe_un un_neg pe_int) pa_nil))) pa_nil))))), ?_⟩
    refine ⟨_, rfl, _, rfl, _, rfl, a', s', -1, c, 1, rfl, hS', hl', hx, (by unfold Sz; decide), by omega, fun l H1 s1 nl h1 => ?_⟩
    refine ⟨a, l, r, M.times s' (-1), rfl, SeqI.same s1 hS, .inl (SqL.of h1), hl, by rw [M.times_len]; exact hl', fun l2 H2 s2 nl2 h2 => k l2 H2 (s1.trans s2) (s1.free nl2) h2⟩
abbrev s_row_product : Stmt := top 16
abbrev N_row_product : List Str := ["row", "other", "many", "n"]
theorem sc_row_product : FnScope N_row_product ["row", "other"] (defScope s_row_product) := ⟨rfl, rfl, rfl, by decide +kernel, rfl, by decide +kernel, by decide +kernel⟩

theorem truS {H : Hp} {a : Addr} {r : List Int} (h : SeqI K H a r) : TruV K (.ref a) H (!r.isEmpty) := by
  have e : (!(r.map V.int).isEmpty) = !r.isEmpty := by cases r <;> rfl
  rw [← e]
  exact h.elim (fun h => .inl ⟨_, h, rfl⟩) fun h => .inr (.inl ⟨_, h, rfl⟩)
theorem ok_row_product (F : Fun K "row_product" "row_product" s_row_product f fd) (T : Blt mg) (G_row_value : Has P w K mg base 2 "row_value" ["row", "n"] (spRowV K)) (G_row_through : Has P w K mg base 1 "row_through" ["values"] (spRowThr K)) : FnOk P w K mg base CX0 3 f fd ["row", "other"] (spRowProd K) := by
  refine F.ok sc_row_product (fun vs H Q E h => ?_) (fun cdv A outer s H vs Q E hr h => ?_)
  · obtain ⟨a, a', r, s, c, rfl, _⟩ := h
    rfl
  · obtain ⟨a, a', r, s', c, rfl, hS, hS', hl, hl', hx, hx', hc, k⟩ := h
    have hS0 := hS
    have hS0' := hS'
    obtain ⟨ka, hS⟩ := ZK.kindOf hS
    obtain ⟨kb, hS'⟩ := ZK.kindOf hS'
    refine ⟨_, (pss_cons (ps_if (PW.pt (pw_or (pt_not (pt_truth (pv 0) (by intro _; rfl))) (pw_or1 (pt_not (pt_truth (pv 1) (by intro _; rfl))))))
      (pss_one (ps_ret (pe_lst pa_nil)))
      pss_nil)
    (pss_cons (ps_set (i := 2) sc_row_product.nd rfl (Or.inl rfl) (pe_op op_sub (pe_op op_add (pe_callB (show CallR _ _ (rLenQ K) from c_len) (by rfl) T.len_ (by decide +kernel) (pa_cons (pv 0) pa_nil)) (pe_callB (show CallR _ _ (rLenQ K) from c_len) (by rfl) T.len_ (by decide +kernel) (pa_cons (pv 1) pa_nil))) pe_int))
    (pss_one (ps_ret (pe_has G_row_through (hr.mono (by decide)) (pa_cons (pe_lc (own := [("n", 3)]) (g := gName 3) (tt := tYes) (by rfl) sc_row_product.nd (pi_range1 (by rfl) T.range_ (pa_cons (pv 2) pa_nil)) (blkOk_by (own := [("n", 3)]) (N := N_row_product) (sc := defScope s_row_product) (by decide +kernel)) (fun _ _ _ _ _ => (pg_name (i := 3) sc_row_product.nd rfl (by first | exact Or.inl rfl | exact Or.inr rfl))) (fun _ _ _ _ _ => pts_nil) (fun _ _ _ _ _ => (pe_op op_mulW (pe_has G_row_value (hr.mono (by decide)) (pa_cons (pv 0) (pa_cons (pv 3) pa_nil))) (pe_has G_row_value (hr.mono (by decide)) (pa_cons (pv 1) (pa_cons (pv 3) pa_nil)))))) pa_nil)))))), ?_⟩
    refine ⟨_, rfl, !r.isEmpty, truS hS0, ?_⟩
    cases r with
    | nil =>
      refine iteT ⟨(by show 0 ≤ sizeLine; decide), fun l hl => k l _ (same_new (Same.refl H) _ hl) hl ?_⟩
      rw [upd_same, M.prod, if_pos (.inl rfl)]
      rfl
    | cons x r =>
      refine iteF ⟨_, rfl, !s'.isEmpty, truS hS0', ?_⟩
      cases s' with
      | nil =>
        refine iteT ⟨(by show 0 ≤ sizeLine; decide), fun l hl => k l _ (same_new (Same.refl H) _ hl) hl ?_⟩
        rw [upd_same, M.prod, if_pos (.inr rfl)]
        rfl
      | cons y s' =>
        refine iteF ?_
        generalize e1 : x :: r = r1 at *
        generalize e2 : y :: s' = r2 at *
        have n1 : 0 < r1.length := by rw [← e1]; exact Nat.succ_pos _
        have n2 : 0 < r2.length := by rw [← e2]; exact Nat.succ_pos _
        have ne : ¬ (r1 = [] ∨ r2 = []) := by rw [← e1, ← e2]; simp
        clear e1 e2
        refine ⟨_, rfl, a, _, rfl, hS0, _, rfl, a', _, rfl, hS0', _, _, rfl, rfl, _, _, rfl, rfl, ?_⟩
        rw [List.length_map, List.length_map]
        obtain ⟨m, hm⟩ : ∃ m : Nat, m = r1.length + r2.length - 1 := ⟨_, rfl⟩
        refine ⟨_, rfl, (m : Int), congrArg (fun z => [V.int z]) (by omega), by omega, by omega, fun D hD => ?_⟩
        rw [show ((m : Int)).toNat = m by omega]
        have hv : ∀ i : Nat, i < m → Sz 6 ((i : Int)) := fun i hi => by unfold Sz; omega
        refine ZK.lc_growR m (small1000 (by omega)) (fun _ H' => Same H H') (fun i y => y = .int (M.val r1 (i : Int) * M.val r2 (i : Int))) (same_new (Same.refl _) _ hD) ?_ ?_
        · intro i H1 acc hi s1 hacc hal hR Qn hq
          rw [Int.zero_add]
          have z1 := valb (c := c) (by decide) (hv i hi) hl hx
          have z2 := valb (c := c) (by decide) (hv i hi) hl' hx'
          refine ⟨rfl, _, rfl, _, rfl, a, r1, (i : Int), 6, c, rfl, SeqI.same s1 hS0, hl, hx, hc, by decide, by decide, hv i hi, fun H2 s2 => ?_⟩
          refine ⟨_, rfl, _, rfl, a', r2, (i : Int), 6, c, rfl, SeqI.same s2 (SeqI.same s1 hS0'), hl', hx', hc, by decide, by decide, hv i hi, fun H3 s3 => ?_⟩
          exact ⟨_, _, rfl, rfl, z1.mulOk z2 (by omega), hq _ _ rfl (s3 _ _ (s2 _ _ hacc)) (same_but_new ((s1.trans s2).trans s3) hD)⟩
        · intro H1 acc s1 hacc hal hR
          have e := ZK.eq_map hal hR
          refine ⟨D, M.vals (fun n => M.val r1 n * M.val r2 n) m, rfl, .inl (SqL.of ?_), by rw [M.vals_len]; omega, fun l H2 s2 nl h2 => k l H2 (s1.trans s2) (s1.free nl) ?_⟩
          · rw [hacc, e]
            unfold M.vals
            rw [List.map_map]
            rfl
          · rw [h2, M.prod, if_neg ne, hm]
end
end EN

/-! the signs of a row: pieces with one sign each -/
namespace EN.SG
open M
abbrev Tr := Int × Option Int × Int
def sgn (x : Int) : Int := if x = 0 then 0 else if 0 < x then 1 else -1
theorem sgn_pos {x : Int} (h : 0 < x) : sgn x = 1 := by unfold sgn; rw [if_neg (by omega), if_pos h]
theorem sgn_neg {x : Int} (h : x < 0) : sgn x = -1 := by unfold sgn; rw [if_neg (by omega), if_neg (by omega)]
theorem sgn_zero : sgn 0 = 0 := rfl
theorem sgn_cases (x : Int) : (x < 0 ∧ sgn x = -1) ∨ (x = 0 ∧ sgn x = 0) ∨ (0 < x ∧ sgn x = 1) := by
  rcases Int.lt_trichotomy x 0 with h | h | h
  · exact .inl ⟨h, sgn_neg h⟩
  · exact .inr (.inl ⟨h, by rw [h]; rfl⟩)
  · exact .inr (.inr ⟨h, sgn_pos h⟩)
def InI (lo : Int) (hi : Option Int) (n : Int) : Prop := lo ≤ n ∧ ∀ h, hi = some h → n ≤ h
/-- pieces side by side from lo to hi, none empty, f of one sign on each -/
def Cov (f : Int → Int) : Int → Option Int → List Tr → Prop
  | _, _, [] => False
  | lo, hi, t :: ts => t.1 = lo ∧ (∀ n, InI lo t.2.1 n → sgn (f n) = t.2.2) ∧ InI lo t.2.1 lo ∧ ((ts = [] ∧ t.2.1 = hi) ∨ (ts ≠ [] ∧ ∃ m, t.2.1 = some m ∧ Cov f (m + 1) hi ts))
theorem cov_one {f : Int → Int} {lo s : Int} {hi : Option Int} (h : ∀ n, InI lo hi n → sgn (f n) = s) (ne : InI lo hi lo) : Cov f lo hi [(lo, hi, s)] := ⟨rfl, h, ne, .inl ⟨rfl, rfl⟩⟩
theorem cov_cons {f : Int → Int} {lo s m : Int} {hi : Option Int} {ts : List Tr} (h : ∀ n, lo ≤ n → n ≤ m → sgn (f n) = s) (ne : lo ≤ m) (c : Cov f (m + 1) hi ts) : Cov f lo hi ((lo, some m, s) :: ts) :=
  ⟨rfl, fun n hn => h n hn.1 (hn.2 m rfl), ⟨Int.le_refl _, fun k e => by cases e; exact ne⟩, .inr ⟨fun z => by rw [z] at c; exact c, m, rfl, c⟩⟩
theorem cov_ne {f : Int → Int} {lo : Int} {hi : Option Int} {ts : List Tr} (c : Cov f lo hi ts) : ts ≠ [] := fun z => by rw [z] at c; exact c
theorem cov_len {f : Int → Int} {lo : Int} {hi : Option Int} {ts : List Tr} (c : Cov f lo hi ts) : InI lo hi lo := by
  induction ts generalizing lo with
  | nil => exact c.elim
  | cons t ts ih =>
    obtain ⟨e1, _, ne, ⟨_, e⟩ | ⟨_, m, e, c2⟩⟩ := c
    · rw [← e]; exact ne
    · have h1 := ih c2
      have h2 := ne.2 m e
      exact ⟨Int.le_refl _, fun h z => by have := h1.2 h z; omega⟩
theorem cov_append {f : Int → Int} {m : Int} {hi : Option Int} {us : List Tr} (c2 : Cov f (m + 1) hi us) : ∀ {ts : List Tr} {lo : Int}, Cov f lo (some m) ts → Cov f lo hi (ts ++ us)
  | [], lo, c => c.elim
  | t :: ts, lo, c => by
    obtain ⟨e1, sg, ne, ⟨rfl, e⟩ | ⟨ne2, k, e, c3⟩⟩ := c
    · exact ⟨e1, sg, ne, .inr ⟨cov_ne c2, m, e, c2⟩⟩
    · exact ⟨e1, sg, ne, .inr ⟨by simp [ne2], k, e, cov_append c2 c3⟩⟩
/-- each piece cut further -/
theorem cov_flat {f g : Int → Int} {S : Tr → List Tr} {hi : Option Int} : ∀ {ts : List Tr} {lo : Int}, Cov g lo hi ts → (∀ t ∈ ts, Cov f t.1 t.2.1 (S t)) → Cov f lo hi (ts.flatMap S)
  | [], lo, c, _ => c.elim
  | t :: ts, lo, c, h => by
    obtain ⟨e1, sg, ne, ⟨rfl, e⟩ | ⟨ne2, k, e, c3⟩⟩ := c
    · have h1 := h t (by simp)
      rw [e1, e] at h1
      simpa using h1
    · have h1 := h t (by simp)
      rw [e1, e] at h1
      rw [List.flatMap_cons]
      exact cov_append (cov_flat c3 fun u hu => h u (by simp [hu])) h1
/-- what is known of a piece: it lies within lo to hi -/
theorem cov_mem {f : Int → Int} {hi : Option Int} : ∀ {ts : List Tr} {lo : Int}, Cov f lo hi ts → ∀ t ∈ ts, lo ≤ t.1 ∧ InI t.1 t.2.1 t.1 ∧ (∀ n, InI t.1 t.2.1 n → sgn (f n) = t.2.2) ∧ ((t.2.1 = none → hi = none) ∧ ∀ h, hi = some h → ∃ m, t.2.1 = some m ∧ m ≤ h)
  | [], lo, c, _, _ => c.elim
  | u :: ts, lo, c, t, ht => by
    have c0 := c
    obtain ⟨e1, sg, ne, q⟩ := c
    rcases List.mem_cons.mp ht with rfl | ht
    · rw [e1]
      refine ⟨Int.le_refl _, ne, sg, ?_⟩
      rcases q with ⟨_, e⟩ | ⟨_, m, e, c2⟩
      · rw [e]
        exact ⟨fun z => z, fun h z => ⟨h, z, Int.le_refl _⟩⟩
      · rw [e]
        refine ⟨fun z => (by cases z), fun h z => ⟨m, rfl, ?_⟩⟩
        have := (cov_len c2).2 h z
        omega
    · rcases q with ⟨rfl, _⟩ | ⟨_, m, e, c2⟩
      · cases ht
      · obtain ⟨h1, h2⟩ := cov_mem c2 t ht
        have := ne.2 m e
        exact ⟨by omega, h2⟩
def Alt : List Tr → Prop
  | t :: u :: ts => t.2.2 ≠ u.2.2 ∧ Alt (u :: ts)
  | _ => True
theorem cov_sgn {f : Int → Int} {lo : Int} {hi : Option Int} {t : Tr} {ts : List Tr} (c : Cov f lo hi (t :: ts)) : sgn (f lo) = t.2.2 := c.2.1 lo c.2.2.1
/-- there is one such row where neighbours are unlike -/
theorem cov_unique {f : Int → Int} {hi : Option Int} : ∀ {A B : List Tr} {lo : Int}, Cov f lo hi A → Cov f lo hi B → Alt A → Alt B → A = B
  | [], _, _, a, _, _, _ => a.elim
  | _ :: _, [], _, _, b, _, _ => b.elim
  | t :: A, u :: B, lo, ca, cb, aa, ab => by
    have sa := cov_sgn ca
    have sb := cov_sgn cb
    obtain ⟨ea, ga, na, qa⟩ := ca
    obtain ⟨eb, gb, nb, qb⟩ := cb
    obtain ⟨tl, th, ts⟩ := t
    obtain ⟨ul, uh, us⟩ := u
    dsimp only at ea ga na qa eb gb nb qb sa sb
    subst ea
    have es : ts = us := by rw [← sa, ← sb]
    subst es
    subst eb
    -- a piece that ends at m, where the other goes on beyond m
    have clash : ∀ {A : List Tr} {m : Int} {h : Option Int}, Cov f (m + 1) hi A → Alt ((ul, some m, ts) :: A) → (∀ n, InI ul h n → sgn (f n) = ts) → ul ≤ m → (∀ k, h = some k → m + 1 ≤ k) → False := by
      intro A m h c al g lm lk
      cases A with
      | nil => exact c
      | cons v A =>
        have e1 := cov_sgn c
        have e2 := g (m + 1) ⟨by omega, fun k e => lk k e⟩
        exact al.1 (by show ts = v.2.2; rw [← e1, ← e2])
    rcases qa with ⟨rfl, ea⟩ | ⟨neA, m, ea, ca2⟩
    · rcases qb with ⟨rfl, eb⟩ | ⟨neB, k, eb, cb2⟩
      · rw [ea, eb]
      · exfalso
        subst eb
        refine clash cb2 ab ga (nb.2 k rfl) fun j e => ?_
        rw [ea] at e
        exact (cov_len cb2).2 j e
    · rcases qb with ⟨rfl, eb⟩ | ⟨neB, k, eb, cb2⟩
      · exfalso
        subst ea
        refine clash ca2 aa gb (na.2 m rfl) fun j e => ?_
        rw [eb] at e
        exact (cov_len ca2).2 j e
      · subst ea
        subst eb
        rcases Int.lt_trichotomy m k with h | h | h
        · exact (clash ca2 aa gb (na.2 m rfl) fun j e => by cases e; omega).elim
        · subst h
          have tA : Alt A := by
            cases A with
            | nil => trivial
            | cons v A => exact aa.2
          have tB : Alt B := by
            cases B with
            | nil => trivial
            | cons v B => exact ab.2
          rw [cov_unique ca2 cb2 tA tB]
        · exact (clash cb2 ab ga (nb.2 k rfl) fun j e => by cases e; omega).elim
/-! ### a row far out -/
theorem C_step (n : Int) (j : Nat) : C n (j + 1) * (j + 1) = C n j * (n - j) := C_rec n j
theorem C_pos : ∀ (j : Nat) (n : Int), (j : Int) ≤ n → 0 < C n j
  | 0, n, _ => by rw [C_zero]; decide
  | j + 1, n, h => by
    have h1 := C_pos j n (by omega)
    have h2 := C_step n j
    have h3 : 0 < C n j * (n - j) := Int.mul_pos h1 (by omega)
    rw [← h2] at h3
    exact Int.pos_of_mul_pos_left h3 (by omega)
theorem far_pos (Mx : Int) (hM : 0 ≤ Mx) (n : Int) : ∀ (r : List Int) (j : Nat), (∀ x ∈ r, -Mx ≤ x) → (∃ e, r.getLast? = some e ∧ 1 ≤ e) → (Mx + 2) * ((j + r.length : Nat) : Int) ≤ n → C n j ≤ valF j r n
  | [], j, _, h, _ => by obtain ⟨e, h, _⟩ := h; cases h
  | [a], j, hx, h, hn => by
    obtain ⟨e, h1, h2⟩ := h
    cases h1
    have hj : (j : Int) ≤ n := by
      have : ((j + 1 : Nat) : Int) * 1 ≤ ((j + 1 : Nat) : Int) * (Mx + 2) := Int.mul_le_mul_of_nonneg_left (by omega) (by omega)
      rw [Int.mul_comm] at hn
      simp only [List.length_cons, List.length_nil, Nat.zero_add] at hn
      omega
    have hc := C_pos j n hj
    show C n j ≤ a * C n j + 0
    have : 1 * C n j ≤ a * C n j := Int.mul_le_mul_of_nonneg_right h2 (by omega)
    omega
  | a :: b :: r, j, hx, h, hn => by
    have hlen : j + (a :: b :: r).length = (j + 1) + (b :: r).length := by simp; omega
    rw [hlen] at hn
    have ih := far_pos Mx hM n (b :: r) (j + 1) (fun x hx2 => hx x (by simp only [List.mem_cons] at hx2 ⊢; exact .inr hx2)) (by
      obtain ⟨e, h1, h2⟩ := h
      exact ⟨e, by rw [List.getLast?_cons_cons] at h1; exact h1, h2⟩) hn
    have ha := hx a (by simp)
    have big : (Mx + 2) * ((j + 1 : Nat) : Int) ≤ n := by
      refine Int.le_trans (Int.mul_le_mul_of_nonneg_left ?_ (by omega)) hn
      simp only [List.length_cons]
      omega
    have hj : (j : Int) ≤ n := by
      have : 1 * ((j + 1 : Nat) : Int) ≤ (Mx + 2) * ((j + 1 : Nat) : Int) := Int.mul_le_mul_of_nonneg_right (by omega) (by omega)
      omega
    have hc := C_pos j n hj
    have hs := C_step n j
    show C n j ≤ a * C n j + valF (j + 1) (b :: r) n
    have ha2 : -Mx * C n j ≤ a * C n j := Int.mul_le_mul_of_nonneg_right ha (by omega)
    -- C n (j+1) ≥ (Mx + 1) C n j
    have key : (Mx + 1) * C n j ≤ C n (j + 1) := by
      have e1 : ((Mx + 1) * C n j) * ((j : Int) + 1) ≤ C n (j + 1) * ((j : Int) + 1) := by
        rw [hs]
        have e2 : (Mx + 1) * C n j * ((j : Int) + 1) = C n j * ((Mx + 1) * ((j : Int) + 1)) := by
          rw [Int.mul_comm (Mx + 1), Int.mul_assoc]
        rw [e2]
        refine Int.mul_le_mul_of_nonneg_left ?_ (by omega)
        have e3 : (Mx + 2) * ((j + 1 : Nat) : Int) = (Mx + 1) * ((j : Int) + 1) + ((j : Int) + 1) := by
          rw [show ((j + 1 : Nat) : Int) = (j : Int) + 1 by omega, show Mx + 2 = (Mx + 1) + 1 by omega, Int.add_mul, Int.one_mul]
        omega
      exact Int.le_of_mul_le_mul_right e1 (by omega)
    have e4 : (Mx + 1) * C n j = Mx * C n j + C n j := by rw [Int.add_mul, Int.one_mul]
    have e5 : -Mx * C n j = -(Mx * C n j) := Int.neg_mul _ _
    omega
theorem val_far {Mx : Int} (hM : 0 ≤ Mx) {r : List Int} (hx : ∀ x ∈ r, -Mx ≤ x) {e : Int} (hl : r.getLast? = some e) (he : 1 ≤ e) {n : Int} (hn : (Mx + 2) * (r.length : Int) ≤ n) : 1 ≤ val r n := by
  have h := far_pos Mx hM n r 0 hx ⟨e, hl, he⟩ (by rw [Nat.zero_add]; exact hn)
  rw [C_zero] at h
  exact h
theorem val_next (a : Int) (r : List Int) (n : Int) : val (a :: r) (n + 1) = val (a :: r) n + val r n := by
  rw [val_cons, val_cons, valF1_step]
  omega
theorem const_on {f : Int → Int} {lo : Int} {hi : Option Int} (h : ∀ n, InI lo hi n → f (n + 1) = f n) : ∀ (k : Nat), InI lo hi (lo + k) → f (lo + k) = f lo
  | 0, _ => by rw [show lo + ((0 : Nat) : Int) = lo by omega]
  | k + 1, hk => by
    have h1 : InI lo hi (lo + k) := ⟨by omega, fun j e => by have := hk.2 j e; omega⟩
    have h2 := const_on h k h1
    rw [show lo + ((k + 1 : Nat) : Int) = (lo + k) + 1 by omega, h _ h1, h2]
theorem step_strict {g : Int → Int} {lo : Int} {hi : Option Int} (h : ∀ n, InI lo hi n → g n < g (n + 1)) (n : Int) (h1 : lo ≤ n) : ∀ (k : Nat), (∀ j, hi = some j → n + (k + 1) ≤ j) → g n < g (n + (k + 1))
  | 0, hk => by
    rw [show n + (((0 : Nat) : Int) + 1) = n + 1 by omega]
    exact h n ⟨h1, fun j e => by have := hk j e; omega⟩
  | k + 1, hk => by
    have h2 := step_strict h n h1 k fun j e => by have := hk j e; omega
    have h3 := h (n + (k + 1)) ⟨by omega, fun j e => by have := hk j e; omega⟩
    rw [show n + (((k + 1 : Nat) : Int) + 1) = n + (k + 1) + 1 by omega]
    omega
theorem sgn_flip {x sl : Int} (h : sl = 1 ∨ sl = -1) : sgn x = sgn (x * sl) * sl := by
  rcases h with rfl | rfl
  · rw [Int.mul_one, Int.mul_one]
  · rw [Int.mul_neg, Int.mul_one]
    rcases sgn_cases x with ⟨h1, h2⟩ | ⟨h1, h2⟩ | ⟨h1, h2⟩
    · rw [h2, sgn_pos (by omega)]
    · rw [h1]; rfl
    · rw [h2, sgn_neg (by omega)]; rfl
def flipT (sl : Int) (t : Tr) : Tr := (t.1, t.2.1, t.2.2 * sl)
theorem cov_flip {f g : Int → Int} {sl : Int} (h : sl = 1 ∨ sl = -1) (hg : ∀ n, g n = f n * sl) {hi : Option Int} : ∀ {ts : List Tr} {lo : Int}, Cov g lo hi ts → Cov f lo hi (ts.map (flipT sl))
  | [], _, c => c.elim
  | t :: ts, lo, c => by
    obtain ⟨e1, sg, ne, q⟩ := c
    refine ⟨e1, fun n hn => ?_, ne, ?_⟩
    · show sgn (f n) = t.2.2 * sl
      rw [sgn_flip h, ← hg, sg n hn]
    · rcases q with ⟨rfl, e⟩ | ⟨ne2, m, e, c2⟩
      · exact .inl ⟨rfl, e⟩
      · exact .inr ⟨by simpa using ne2, m, e, cov_flip h hg c2⟩
theorem sgn_one {x sl : Int} (h : sgn x = sl) (h1 : sl = 1 ∨ sl = -1) : 0 < x * sl := by
  rcases sgn_cases x with ⟨a, b⟩ | ⟨a, b⟩ | ⟨a, b⟩
  · have : sl = -1 := by omega
    rw [this]; omega
  · omega
  · have : sl = 1 := by omega
    rw [this]; omega
theorem sgn_vals (x : Int) : sgn x = 0 ∨ sgn x = 1 ∨ sgn x = -1 := by
  rcases sgn_cases x with ⟨a, b⟩ | ⟨a, b⟩ | ⟨a, b⟩ <;> omega
/-! ### neighbours that are alike made one -/
def jst (F : List Tr) (t : Tr) : List Tr := match F.getLast? with
  | none => [t]
  | some u => if u.2.2 = t.2.2 then F.dropLast ++ [(u.1, t.2.1, t.2.2)] else F ++ [t]
theorem jst_nil (t : Tr) : jst [] t = [t] := rfl
theorem jst_snoc (F : List Tr) (u t : Tr) : jst (F ++ [u]) t = if u.2.2 = t.2.2 then F ++ [(u.1, t.2.1, t.2.2)] else F ++ [u] ++ [t] := by
  unfold jst
  rw [List.getLast?_concat]
  simp only [List.dropLast_concat]
theorem jst_len (F : List Tr) (t : Tr) : (jst F t).length ≤ F.length + 1 := by
  rcases List.eq_nil_or_concat F with rfl | ⟨G, u, rfl⟩
  · simp [jst_nil]
  · rw [List.concat_eq_append, jst_snoc]
    by_cases h : u.2.2 = t.2.2
    · rw [if_pos h]; simp
    · rw [if_neg h]; simp
theorem cov_merge {f : Int → Int} {m : Int} {h : Option Int} {u : Tr} {s : Int} (es : u.2.2 = s) (sg : ∀ n, InI (m + 1) h n → sgn (f n) = s) (ne : InI (m + 1) h (m + 1)) : ∀ {G : List Tr} {lo : Int}, Cov f lo (some m) (G ++ [u]) → Cov f lo h (G ++ [(u.1, h, s)])
  | [], lo, c => by
    obtain ⟨e1, sg2, ne2, ⟨_, e⟩ | ⟨z, _⟩⟩ := c
    · refine ⟨e1, fun n hn => ?_, ⟨Int.le_refl _, fun j z => ?_⟩, .inl ⟨rfl, rfl⟩⟩
      · by_cases c : n ≤ m
        · have := sg2 n ⟨hn.1, fun j z => by rw [e] at z; cases z; exact c⟩
          rw [this, es]
        · exact sg n ⟨by omega, hn.2⟩
      · have h1 := ne.2 j z
        have h2 := ne2.2 m e
        omega
    · exact absurd rfl z
  | g :: G, lo, c => by
    obtain ⟨e1, sg2, ne2, ⟨z, _⟩ | ⟨_, k, e, c2⟩⟩ := c
    · simp at z
    · exact ⟨e1, sg2, ne2, .inr ⟨by simp, k, e, cov_merge es sg ne c2⟩⟩
theorem alt_last {u v : Tr} (h : u.2.2 = v.2.2) : ∀ {G : List Tr}, Alt (G ++ [u]) → Alt (G ++ [v])
  | [], _ => trivial
  | [g], a => ⟨by rw [← h]; exact a.1, trivial⟩
  | g :: g2 :: G, a => ⟨a.1, alt_last (G := g2 :: G) h a.2⟩
theorem alt_snoc {u v : Tr} (h : u.2.2 ≠ v.2.2) : ∀ {G : List Tr}, Alt (G ++ [u]) → Alt (G ++ [u] ++ [v])
  | [], _ => ⟨h, trivial⟩
  | [g], a => ⟨a.1, h, trivial⟩
  | g :: g2 :: G, a => ⟨a.1, alt_snoc (G := g2 :: G) h a.2⟩
theorem jst_cov {f : Int → Int} {m lo : Int} {F : List Tr} {t : Tr} (c : Cov f lo (some m) F) (a : Alt F) (e1 : t.1 = m + 1) (sg : ∀ n, InI (m + 1) t.2.1 n → sgn (f n) = t.2.2) (ne : InI (m + 1) t.2.1 (m + 1)) : Cov f lo t.2.1 (jst F t) ∧ Alt (jst F t) := by
  rcases List.eq_nil_or_concat F with rfl | ⟨G, u, rfl⟩
  · exact c.elim
  · rw [List.concat_eq_append] at c a ⊢
    rw [jst_snoc]
    by_cases h : u.2.2 = t.2.2
    · rw [if_pos h]
      exact ⟨cov_merge h sg ne c, alt_last (v := (u.1, t.2.1, t.2.2)) h a⟩
    · rw [if_neg h]
      refine ⟨cov_append (m := m) ?_ c, alt_snoc h a⟩
      exact ⟨e1, sg, ne, .inl ⟨rfl, rfl⟩⟩
theorem fold_cov {f : Int → Int} {lo : Int} {hi : Option Int} : ∀ (ts : List Tr) (F : List Tr) (m : Int), Cov f lo (some m) F → Alt F → Cov f (m + 1) hi ts → Cov f lo hi (ts.foldl jst F) ∧ Alt (ts.foldl jst F)
  | [], _, _, _, _, c => c.elim
  | t :: ts, F, m, cF, aF, c => by
    obtain ⟨e1, sg, ne, q⟩ := c
    obtain ⟨h1, h2⟩ := jst_cov cF aF e1 sg ne
    rw [List.foldl_cons]
    rcases q with ⟨rfl, e⟩ | ⟨_, k, e, c2⟩
    · rw [e] at h1
      exact ⟨h1, h2⟩
    · rw [e] at h1
      exact fold_cov ts _ k h1 h2 c2
theorem join_cov {f : Int → Int} {lo : Int} {hi : Option Int} {ts : List Tr} (c : Cov f lo hi ts) : Cov f lo hi (ts.foldl jst []) ∧ Alt (ts.foldl jst []) := by
  cases ts with
  | nil => exact c.elim
  | cons t ts =>
    obtain ⟨e1, sg, ne, q⟩ := c
    rw [List.foldl_cons, jst_nil]
    have h1 : Cov f lo t.2.1 [t] := ⟨e1, sg, ne, .inl ⟨rfl, rfl⟩⟩
    rcases q with ⟨rfl, e⟩ | ⟨_, k, e, c2⟩
    · rw [e] at h1
      exact ⟨h1, trivial⟩
    · rw [e] at h1
      exact fold_cov ts [t] k h1 trivial c2
theorem fold_len : ∀ (ts F : List Tr), (ts.foldl jst F).length ≤ F.length + ts.length
  | [], F => Nat.le_refl _
  | t :: ts, F => by
    rw [List.foldl_cons]
    have h1 := fold_len ts (jst F t)
    have h2 := jst_len F t
    rw [List.length_cons]
    omega
/-! ### places in a row of pieces -/
theorem cov_fst {f : Int → Int} {lo : Int} {hi : Option Int} {ts : List Tr} (c : Cov f lo hi ts) {t : Tr} (h : ts[0]? = some t) : t.1 = lo := by
  cases ts with
  | nil => cases h
  | cons u ts => cases h; exact c.1
theorem cov_two {f : Int → Int} {hi : Option Int} : ∀ {ts : List Tr} {lo : Int}, Cov f lo hi ts → ∀ (i : Nat) (t u : Tr), ts[i]? = some t → ts[i + 1]? = some u → t.2.1 = some (u.1 - 1)
  | [], _, c, _, _, _, _, _ => c.elim
  | a :: ts, lo, c, i, t, u, h1, h2 => by
    obtain ⟨_, _, _, ⟨rfl, _⟩ | ⟨_, m, e, c2⟩⟩ := c
    · cases i <;> simp at h2
    · cases i with
      | zero =>
        cases h1
        rw [e, cov_fst c2 h2]
        congr 1
        omega
      | succ i => exact cov_two c2 i t u h1 h2
theorem cov_lst {f : Int → Int} {hi : Option Int} : ∀ {ts : List Tr} {lo : Int}, Cov f lo hi ts → ∀ t : Tr, ts[ts.length - 1]? = some t → t.2.1 = hi
  | [], _, c, _, _ => c.elim
  | a :: ts, lo, c, t, h => by
    obtain ⟨_, _, _, ⟨rfl, e⟩ | ⟨ne, m, e, c2⟩⟩ := c
    · cases h; exact e
    · have hl : 0 < ts.length := List.length_pos_iff.mpr ne
      rw [List.length_cons, show ts.length + 1 - 1 = (ts.length - 1) + 1 by omega, List.getElem?_cons_succ] at h
      exact cov_lst c2 t h
theorem cutN_last (r : List Int) : ∀ (e k : Nat), cutN r e = k + 1 → r[k]? ≠ some 0
  | 0, k, h => by simp [cutN] at h
  | e + 1, k, h => by
    by_cases h0 : r[e]? = some 0
    · rw [cutN_zero r e h0] at h
      exact cutN_last r e k h
    · rw [cutN_stop r e h0] at h
      have : k = e := by omega
      rw [this]
      exact h0
theorem cut_last {r : List Int} {a : Int} (h : (cut r)[(cut r).length - 1]? = some a) : a ≠ 0 := by
  intro z
  rw [z] at h
  have hl := (List.getElem?_eq_some_iff.mp h).1
  have hle := cutN_le r r.length
  have e : (cut r).length = cutN r r.length := by
    unfold cut
    rw [List.length_take]
    omega
  rw [e] at h hl
  unfold cut at h
  rw [List.getElem?_take] at h
  rw [if_pos (by omega)] at h
  exact cutN_last r r.length (cutN r r.length - 1) (by omega) h
/-! ### up to an end -/
def lim (hi : Option Int) : Option Int → Option Int
  | none => hi
  | some m => match hi with
    | none => some m
    | some h => if h < m then some h else some m
def keepT (hi : Option Int) (t : Tr) : Bool := match hi with
  | none => true
  | some h => decide (t.1 ≤ h)
def clp (hi : Option Int) (t : Tr) : Option Tr := if keepT hi t = true then some (t.1, lim hi t.2.1, t.2.2) else none
theorem clp_none (ts : List Tr) : ts.filterMap (clp none) = ts := by
  have : ∀ t : Tr, clp none t = some t := fun ⟨a, b, c⟩ => by
    cases b <;> rfl
  induction ts with
  | nil => rfl
  | cons t ts ih => rw [List.filterMap_cons, this, ih]
theorem clp_out {h : Int} : ∀ {ts : List Tr}, (∀ t ∈ ts, h < t.1) → ts.filterMap (clp (some h)) = []
  | [], _ => rfl
  | t :: ts, hh => by
    have h1 : keepT (some h) t = false := decide_eq_false (by have := hh t (by simp); omega)
    rw [List.filterMap_cons, clp, h1, if_neg Bool.false_ne_true]
    exact clp_out fun u hu => hh u (by simp [hu])
theorem clp_cov {f : Int → Int} {h : Int} : ∀ {ts : List Tr} {lo : Int}, Cov f lo none ts → Alt ts → lo ≤ h → Cov f lo (some h) (ts.filterMap (clp (some h))) ∧ Alt (ts.filterMap (clp (some h))) ∧ ∀ t u, ts[0]? = some t → (ts.filterMap (clp (some h)))[0]? = some u → u.2.2 = t.2.2
  | [], _, c, _, _ => c.elim
  | t :: ts, lo, c, a, lh => by
    have c0 := c
    obtain ⟨e1, sg, ne, q⟩ := c
    have kt : keepT (some h) t = true := decide_eq_true (by omega)
    have ft : (t :: ts).filterMap (clp (some h)) = (t.1, lim (some h) t.2.1, t.2.2) :: ts.filterMap (clp (some h)) := by
      rw [List.filterMap_cons, clp, if_pos kt]
    rw [ft, e1]
    have fst : ∀ (X : List Tr) (t' u : Tr), (t :: ts)[0]? = some t' → ((lo, lim (some h) t.2.1, t.2.2) :: X)[0]? = some u → u.2.2 = t'.2.2 := fun X t' u h1 h2 => by
      cases h1; cases h2; rfl
    have one : ∀ m : Option Int, t.2.1 = m → lim (some h) m = some h → (∀ n, InI lo (some h) n → InI lo m n) → Cov f lo (some h) [(lo, lim (some h) t.2.1, t.2.2)] := fun m e el im => by
      rw [e, el]
      exact cov_one (fun n hn => sg n (by rw [e]; exact im n hn)) ⟨Int.le_refl _, fun k z => by cases z; exact lh⟩
    rcases q with ⟨rfl, e⟩ | ⟨ne2, m, e, c2⟩
    · rw [List.filterMap_nil]
      exact ⟨one none e rfl fun n hn => ⟨hn.1, fun k z => nomatch z⟩, trivial, fst []⟩
    · have lm : lo ≤ m := ne.2 m e
      by_cases hm : m < h
      · have el : lim (some h) t.2.1 = some m := by
          rw [e]
          exact if_neg (by omega)
        have aT : Alt ts := by
          cases ts with
          | nil => trivial
          | cons u ts => exact a.2
        obtain ⟨h1, h2, h3⟩ := clp_cov (h := h) c2 aT (by omega)
        rw [el]
        refine ⟨cov_cons (fun n n1 n2 => sg n ⟨n1, fun k z => by rw [e] at z; cases z; exact n2⟩) lm h1, ?_, by rw [el] at fst; exact fst _⟩
        cases ts with
        | nil => exact absurd rfl ne2
        | cons v ts =>
          cases hX : (v :: ts).filterMap (clp (some h)) with
          | nil => trivial
          | cons w X =>
            rw [hX] at h2 h3
            refine ⟨?_, h2⟩
            show t.2.2 ≠ w.2.2
            rw [h3 v w rfl rfl]
            exact a.1
      · have out : ts.filterMap (clp (some h)) = [] := clp_out fun u hu => by
          have := (cov_mem c2 u hu).1
          omega
        rw [out]
        refine ⟨one (some m) e ?_ fun n hn => ⟨hn.1, fun k z => by cases z; have := hn.2 h rfl; omega⟩, trivial, fst []⟩
        show (if h < m then some h else some m) = some h
        by_cases z : h < m
        · rw [if_pos z]
        · rw [if_neg z]
          congr 1
          omega
theorem clip_cov {f : Int → Int} {lo : Int} {hi : Option Int} {ts : List Tr} (c : Cov f lo none ts) (a : Alt ts) (lh : ∀ h, hi = some h → lo ≤ h) : Cov f lo hi (ts.filterMap (clp hi)) ∧ Alt (ts.filterMap (clp hi)) := by
  cases hi with
  | none => rw [clp_none]; exact ⟨c, a⟩
  | some h =>
    obtain ⟨h1, h2, _⟩ := clp_cov c a (lh h rfl)
    exact ⟨h1, h2⟩
end EN.SG

namespace EN
open PySem L2 PyProof.Rows
section
variable {P : Program} {w : World} {K : PySem.W.Frag} {mg : Str → Option Value} {base : Heap} {f : Addr} {fd : FuncData}
/-! ### how far a rising row is below 0 -/
open SG
def oV : Option Int → V
  | none => .non
  | some h => .int h
theorem pi_listB {X : Cx} {K : PySem.W.Frag} (hk : X.K = K) {tg l : Expr} {tl : TE} (hl : PE X l tl) : PI X tg l (iList K tl) := by
  subst hk
  exact pi_list hl
def spSignOf : Sp := fun vs H Q _ => ∃ x : Int, vs = [.int x] ∧ Q (.int (sgn x)) H
abbrev s_sign_of : Stmt := top 19
abbrev N_sign_of : List Str := ["value"]
theorem sc_sign_of : FnScope N_sign_of ["value"] (defScope s_sign_of) := ⟨rfl, rfl, rfl, by decide +kernel, rfl, by decide +kernel, by decide +kernel⟩

theorem ok_sign_of (F : Fun K "sign_of" "sign_of" s_sign_of f fd) (T : Blt mg) : FnOk P w K mg base CX0 1 f fd ["value"] spSignOf := by
  refine F.ok sc_sign_of (fun vs H Q E h => ?_) (fun cdv A outer s H vs Q E hr h => ?_)
  · obtain ⟨_, rfl, _⟩ := h
    rfl
  · obtain ⟨x, rfl, k⟩ := h
    refine ⟨_, (pss_cons (ps_if (pt_cmpR op_eq (pv 0) pe_int (nomark _))
      (pss_one (ps_ret pe_int))
      pss_nil)
    (pss_one (ps_ret (pe_ifExp (pt_cmpR op_gt (pv 0) pe_int (nomark _)) pe_int (pe_un un_neg pe_int))))), ?_⟩
    refine ⟨_, rfl, rfl, _, rfl, ite2 (fun h0 => ?_) (fun h0 => ?_)⟩
    · have e : x = 0 := by simpa using h0
      subst e
      exact k
    · have e : x ≠ 0 := by simpa using h0
      by_cases hp : 0 < x
      · rw [sgn_pos hp] at k
        refine ⟨_, rfl, _, _, rfl, rfl, true, congrArg V.bl (decide_eq_true hp), iteT k⟩
      · rw [sgn_neg (by omega)] at k
        refine ⟨_, rfl, _, _, rfl, rfl, false, congrArg V.bl (decide_eq_false hp), iteF ⟨_, rfl, k⟩⟩
/-- the place low + 2^b - 1 is behind all where the row is below 0 -/
def Rch (r : List Int) (lo : Int) (hi : Option Int) (b : Nat) : Prop := (∃ h, hi = some h ∧ h ≤ lo + 2 ^ b - 1) ∨ 0 ≤ M.val r (lo + 2 ^ b - 1)
open Classical in
noncomputable def rch (r : List Int) (lo : Int) (hi : Option Int) (b : Nat) : Bool := decide (Rch r lo hi b)
open Classical in
theorem rch_iff {r : List Int} {lo : Int} {hi : Option Int} {b : Nat} : rch r lo hi b = true ↔ Rch r lo hi b := by
  unfold rch
  exact decide_eq_true_iff
structure RowOk (K : PySem.W.Frag) (H : Hp) (a : Addr) (r : List Int) : Prop where
  at_ : SeqI K H a r
  len : r.length ≤ 6
  sz : SzA 2001 r
theorem RowOk.same {H H' : Hp} {a : Addr} {r : List Int} (h : RowOk K H a r) (s : Same H H') : RowOk K H' a r := ⟨h.at_.same s, h.len, h.sz⟩
def SzO (b : Nat) (o : Option Int) : Prop := ∀ h, o = some h → Sz b h
theorem sz_pow {b : Nat} (hb : b ≤ 410) : Sz 411 ((2 : Int) ^ b) := by
  unfold Sz
  rw [Int.natAbs_pow]
  show 2 ^ b < 2 ^ 411
  exact Nat.pow_lt_pow_right (by decide) (by omega)
theorem sz_one : Sz 1 (1 : Int) := by unfold Sz; decide
theorem sz_at {lo : Int} (h : Sz 204 lo) {b : Nat} (hb : b ≤ 410) : Sz 413 (lo + 2 ^ b - 1) := (((h.mono (by decide)).add (sz_pow hb)).sub (sz_one.mono (by decide))).mono (by decide)
theorem val_sz {r : List Int} (hl : r.length ≤ 6) (hs : SzA 2001 r) {n : Int} (hn : Sz 413 n) : Sz 8300 (M.val r n) := (valb (by decide) hn (by omega) hs).mono (by decide)
theorem cpow1 {b : Nat} (hb : b ≤ 410) : CPow 1 (b : Int) := by
  exact ⟨by omega, by omega, by decide⟩
theorem pow1 (b : Nat) (lo : Int) : lo + 1 * 2 ^ ((b : Int)).toNat = lo + 2 ^ b := by rw [Int.toNat_natCast, Int.one_mul]
def spReached (K : PySem.W.Frag) : Sp := fun vs H Q _ => ∃ (a : Addr) (r : List Int) (lo : Int) (hi : Option Int) (b : Nat), vs = [.ref a, .int lo, oV hi, .int (b : Int)] ∧ RowOk K H a r ∧ Sz 204 lo ∧ b ≤ 410 ∧ ∀ H' : Hp, Same H H' → Q (.bl (rch r lo hi b)) H'
abbrev s_is_reached : Stmt := top 20
abbrev N_is_reached : List Str := ["row", "low", "high", "bits", "n"]
theorem sc_is_reached : FnScope N_is_reached ["row", "low", "high", "bits"] (defScope s_is_reached) := ⟨rfl, rfl, rfl, by decide +kernel, rfl, by decide +kernel, by decide +kernel⟩

theorem ok_is_reached (F : Fun K "is_reached" "is_reached" s_is_reached f fd) (T : Blt mg) (G_row_value : Has P w K mg base 2 "row_value" ["row", "n"] (spRowV K)) : FnOk P w K mg base CX0 3 f fd ["row", "low", "high", "bits"] (spReached K) := by
  refine F.ok sc_is_reached (fun vs H Q E h => ?_) (fun cdv A outer s H vs Q E hr h => ?_)
  · obtain ⟨_, _, _, _, _, rfl, _⟩ := h
    rfl
  · obtain ⟨a, r, lo, hi, b, rfl, hR, hlo, hb, k⟩ := h
    refine ⟨_, (pss_cons (ps_set (i := 4) sc_is_reached.nd rfl (Or.inl rfl) (pe_op op_sub (pe_op op_add (pv 1) (pe_op op_shl pe_int (pv 3))) pe_int))
    (pss_cons (ps_if (PW.pt (pw_and (pt_cmpR op_notN (pv 2) pe_non (nomark _)) (pw_and1 (pt_cmpR op_ge (pv 4) (pv 2) (nomark _)))))
      (pss_one (ps_ret pe_bl))
      pss_nil)
    (pss_one (ps_ret (pe_cmpR op_ge (pe_has G_row_value (hr.mono (by decide)) (pa_cons (pv 0) (pa_cons (pv 4) pa_nil))) pe_int (nomark _)))))), ?_⟩
    have hn := sz_at hlo hb
    refine ⟨_, rfl, _, rfl, _, _, rfl, rfl, cpow1 hb, ?_⟩
    refine ⟨_, _, rfl, rfl, _, _, rfl, rfl, ?_⟩
    rw [pow1]
    have fin : ∀ (b0 : Bool), (b0 = true ↔ 0 ≤ M.val r (lo + 2 ^ b - 1)) → (∀ h, hi = some h → ¬ h ≤ lo + 2 ^ b - 1) → b0 = rch r lo hi b := fun b0 e no => by
      rw [Bool.eq_iff_iff, e, rch_iff]
      exact ⟨fun q => .inr q, fun q => q.elim (fun ⟨h, z, l⟩ => absurd l (no h z)) id⟩
    have row : ∀ {X : TS} {Dn : Ends}, (∀ h, hi = some h → ¬ h ≤ lo + 2 ^ b - 1) → tRet (tOp (rI0 fun i j => V.bl (decide (j ≤ i))) (tCall (spRowV K) [] E0 (tCons (tVar 0) (tCons (tVar 4) tNil))) (tC (V.int 0))) { nx := fun x H' => Q V.non H', rt := Q } [some (.ref a), some (.int lo), some (oV hi), some (.int (b : Int)), some (.int (lo + 2 ^ b - 1))] H := by
      intro _ _ no
      refine ⟨_, rfl, _, rfl, a, r, _, 413, 2001, rfl, hR.at_, by have := hR.len; omega, hR.sz, by decide, by decide, by decide, hn, fun H1 s1 => ?_⟩
      refine ⟨_, _, rfl, rfl, ?_⟩
      have e := fin (decide (0 ≤ M.val r (lo + 2 ^ b - 1))) decide_eq_true_iff no
      have k' := k H1 s1
      rw [← e] at k'
      exact k'
    cases hi with
    | none => exact ⟨_, rfl, rfl, false, rfl, iteF (row (X := fun _ _ _ => True) (Dn := { nx := fun _ _ => True, rt := Q }) fun h z => nomatch z)⟩
    | some h =>
      refine ⟨_, rfl, rfl, true, rfl, iteT ⟨_, rfl, _, rfl, _, _, rfl, rfl, _, rfl, ite2 (fun h0 => ?_) (fun h0 => ?_)⟩⟩
      · have e : h ≤ lo + 2 ^ b - 1 := by simpa using h0
        have e2 : rch r lo (some h) b = true := rch_iff.mpr (.inl ⟨h, rfl, e⟩)
        rw [e2] at k
        exact k H (Same.refl _)
      · have e : ¬ h ≤ lo + 2 ^ b - 1 := by simpa using h0
        exact row (X := fun _ _ _ => True) (Dn := { nx := fun _ _ => True, rt := Q }) fun h' z => by cases z; exact e
end
end EN

namespace EN
open PySem L2 PyProof.Rows
section
variable {P : Program} {w : World} {K : PySem.W.Frag} {mg : Str → Option Value} {base : Heap} {f : Addr} {fd : FuncData}
def spLast (K : PySem.W.Frag) : Sp := fun vs H Q _ => ∃ (a : Addr) (r : List Int) (lo : Int) (hi : Option Int), vs = [.ref a, .int lo, oV hi] ∧ RowOk K H a r ∧ Sz 204 lo ∧ ¬ Rch r lo hi 0 ∧ (∀ b : Nat, 205 ≤ b → Rch r lo hi b) ∧ ∀ (s : Nat) (H' : Hp), Same H H' → s ≤ 409 → ¬ Rch r lo hi s → Rch r lo hi (s + 1) → Q (.int (s : Int)) H'
abbrev s_last_short : Stmt := top 21
abbrev N_last_short : List Str := ["row", "low", "high", "short", "enough", "middle"]
theorem sc_last_short : FnScope N_last_short ["row", "low", "high"] (defScope s_last_short) := ⟨rfl, rfl, rfl, by decide +kernel, rfl, by decide +kernel, by decide +kernel⟩

theorem ok_last_short (F : Fun K "last_short" "last_short" s_last_short f fd) (T : Blt mg) (G_is_reached : Has P w K mg base 3 "is_reached" ["row", "low", "high", "bits"] (spReached K)) : FnOk P w K mg base CX0 4 f fd ["row", "low", "high"] (spLast K) := by
  refine F.ok sc_last_short (fun vs H Q E h => ?_) (fun cdv A outer s H vs Q E hr h => ?_)
  · obtain ⟨_, _, _, _, rfl, _⟩ := h
    rfl
  · obtain ⟨a, r, lo, hi, rfl, hR, hlo, n0, far, k⟩ := h
    refine ⟨_, (pss_cons (ps_set (i := 3) sc_last_short.nd rfl (Or.inl rfl) pe_int)
    (pss_cons (ps_set (i := 4) sc_last_short.nd rfl (Or.inl rfl) pe_int)
    (pss_cons (ps_while PassesOwn.never (pt_not (pt_val (pe_has G_is_reached (hr.mono (by decide)) (pa_cons (pv 0) (pa_cons (pv 1) (pa_cons (pv 2) (pa_cons (pv 4) pa_nil)))))))
      (pss_cons (ps_set (i := 3) sc_last_short.nd rfl (Or.inl rfl) (pv 4))
      (pss_one (ps_set (i := 4) sc_last_short.nd rfl (Or.inl rfl) (pe_op op_mulW (pv 4) pe_int)))))
    (pss_cons (ps_while PassesOwn.never (pt_cmpR op_gt (pe_op op_sub (pv 4) (pv 3)) pe_int (nomark _))
      (pss_cons (ps_set (i := 5) sc_last_short.nd rfl (Or.inl rfl) (pe_op op_fdivW (pe_op op_add (pv 3) (pv 4)) pe_int))
      (pss_one (ps_if (pt_val (pe_has G_is_reached (hr.mono (by decide)) (pa_cons (pv 0) (pa_cons (pv 1) (pa_cons (pv 2) (pa_cons (pv 5) pa_nil))))))
        (pss_one (ps_set (i := 4) sc_last_short.nd rfl (Or.inl rfl) (pv 5)))
        (pss_one (ps_set (i := 3) sc_last_short.nd rfl (Or.inl rfl) (pv 5)))))))
    (pss_one (ps_ret (pv 3))))))), ?_⟩
    let W1 : Nat → L2.St → Hp → Prop := fun m σ H' => ∃ (s e : Nat), m = 410 - e ∧ σ = [some (.ref a), some (.int lo), some (oV hi), some (.int (s : Int)), some (.int (e : Int)), none] ∧ Same H H' ∧ s < e ∧ e ≤ 410 ∧ ¬ Rch r lo hi s
    refine ⟨W1, ⟨_, 0, 1, rfl, rfl, Same.refl _, by decide, by decide, n0⟩, ?_⟩
    rintro m σ H1 ⟨s1, e, rfl, rfl, sm, lt, le, ns⟩
    refine ⟨_, rfl, _, rfl, _, rfl, _, rfl, a, r, lo, hi, e, rfl, hR.same sm, hlo, le, fun H2 sm2 => ?_⟩
    have sm02 := sm.trans sm2
    cases he : rch r lo hi e with
    | false =>
      have ne : ¬ Rch r lo hi e := fun z => by rw [rch_iff.mpr z] at he; cases he
      have e205 : e < 205 := Nat.lt_of_not_le fun z => ne (far e z)
      refine ⟨false, rfl, iteT ⟨fun σ' H' => ∃ m', m' < 410 - e ∧ W1 m' σ' H', fun _ _ h => h, ?_⟩⟩
      have hm : CMulW (e : Int) 2 := Sz.mulOk (a := 12) (b := 2) (Sz.le (m := 410) (by omega) (by decide)) (by unfold Sz; decide) (by decide)
      refine ⟨_, rfl, _, rfl, _, _, rfl, rfl, hm, ?_⟩
      dsimp only
      rw [show (e : Int) * 2 = ((e * 2 : Nat) : Int) by omega]
      exact ⟨410 - e * 2, by omega, e, e * 2, rfl, rfl, sm02, by omega, by omega, ne⟩
    | true =>
      have ye : Rch r lo hi e := rch_iff.mp he
      refine ⟨true, rfl, iteF ?_⟩
      let W2 : Nat → L2.St → Hp → Prop := fun m σ H' => ∃ (s e : Nat) (v5 : Option V), m = e - s ∧ σ = [some (.ref a), some (.int lo), some (oV hi), some (.int (s : Int)), some (.int (e : Int)), v5] ∧ Same H H' ∧ s < e ∧ e ≤ 410 ∧ ¬ Rch r lo hi s ∧ Rch r lo hi e
      refine ⟨W2, ⟨_, s1, e, none, rfl, rfl, sm02, lt, le, ns, ye⟩, ?_⟩
      clear he ye ns lt le sm02 sm2 sm
      rintro m σ H3 ⟨s2, e2, v5, rfl, rfl, sm, lt, le, ns, ye⟩
      refine ⟨_, rfl, _, rfl, _, _, rfl, rfl, _, _, rfl, rfl, _, rfl, ?_⟩
      by_cases hd : s2 + 1 < e2
      · rw [decide_eq_true (by omega : (1 : Int) < (e2 : Int) - (s2 : Int))]
        refine iteT ⟨fun σ' H' => ∃ m', m' < e2 - s2 ∧ W2 m' σ' H', fun _ _ h => h, ?_⟩
        refine ⟨_, rfl, _, rfl, _, _, rfl, rfl, _, _, rfl, rfl, ⟨by decide, by decide⟩, ?_⟩
        dsimp only
        rw [show ((s2 : Int) + (e2 : Int)) / 2 = (((s2 + e2) / 2 : Nat) : Int) by omega]
        have hm1 : s2 < (s2 + e2) / 2 ∧ (s2 + e2) / 2 < e2 := by omega
        generalize (s2 + e2) / 2 = md at hm1 ⊢
        refine ⟨_, rfl, _, rfl, _, rfl, _, rfl, a, r, lo, hi, md, rfl, hR.same sm, hlo, by omega, fun H4 sm4 => ?_⟩
        cases hb : rch r lo hi md with
        | true => exact ⟨true, rfl, iteT ⟨_, rfl, md - s2, by omega, s2, md, _, rfl, rfl, sm.trans sm4, hm1.1, by omega, ns, rch_iff.mp hb⟩⟩
        | false => exact ⟨false, rfl, iteF ⟨_, rfl, e2 - md, by omega, md, e2, _, rfl, rfl, sm.trans sm4, hm1.2, le, (fun z => by rw [rch_iff.mpr z] at hb; cases hb), ye⟩⟩
      · rw [decide_eq_false (by omega : ¬ (1 : Int) < (e2 : Int) - (s2 : Int))]
        have : e2 = s2 + 1 := by omega
        subst this
        exact iteF ⟨_, rfl, k s2 H3 sm (by omega) ns ye⟩
end
end EN

namespace EN
open PySem L2 PyProof.Rows
section
variable {P : Program} {w : World} {K : PySem.W.Frag} {mg : Str → Option Value} {base : Heap} {f : Addr} {fd : FuncData}
/-! ### where a rising row reaches 0 -/
theorem sz_log {b : Nat} {x : Int} (h : Sz b x) (hb : 0 < b) : x.natAbs.log2 < b := by
  by_cases h0 : x.natAbs = 0
  · rw [h0]
    exact hb
  · exact (Nat.log2_lt h0).mpr h
def spGuess (K : PySem.W.Frag) : Sp := fun vs H Q _ => ∃ (a : Addr) (r : List Int) (lo hi : Int), vs = [.ref a, .int lo, .int hi] ∧ RowOk K H a r ∧ Sz 413 lo ∧ Sz 413 hi ∧ M.val r lo < 0 ∧ 0 ≤ M.val r hi ∧ ∀ (g : Int) (H' : Hp), Same H H' → Sz 8800 g → Q (.int g) H'
abbrev s_straight_guess : Stmt := top 22
abbrev N_straight_guess : List Str := ["row", "below", "above", "fall"]
theorem sc_straight_guess : FnScope N_straight_guess ["row", "below", "above"] (defScope s_straight_guess) := ⟨rfl, rfl, rfl, by decide +kernel, rfl, by decide +kernel, by decide +kernel⟩

theorem ok_straight_guess (F : Fun K "straight_guess" "straight_guess" s_straight_guess f fd) (T : Blt mg) (G_row_value : Has P w K mg base 2 "row_value" ["row", "n"] (spRowV K)) : FnOk P w K mg base CX0 3 f fd ["row", "below", "above"] (spGuess K) := by
  refine F.ok sc_straight_guess (fun vs H Q E h => ?_) (fun cdv A outer s H vs Q E hr h => ?_)
  · obtain ⟨_, _, _, _, rfl, _⟩ := h
    rfl
  · obtain ⟨a, r, lo, hi, rfl, hR, hlo, hhi, nlo, nhi, k⟩ := h
    refine ⟨_, (pss_cons (ps_set (i := 3) sc_straight_guess.nd rfl (Or.inl rfl) (pe_un un_neg (pe_has G_row_value (hr.mono (by decide)) (pa_cons (pv 0) (pa_cons (pv 1) pa_nil)))))
    (pss_one (ps_ret (pe_op op_add (pv 1) (pe_op op_fdivW (pe_op op_mulW (pe_op op_sub (pv 2) (pv 1)) (pv 3)) (pe_op op_add (pv 3) (pe_has G_row_value (hr.mono (by decide)) (pa_cons (pv 0) (pa_cons (pv 2) pa_nil))))))))), ?_⟩
    have l16 : r.length ≤ 16 := by have := hR.len; omega
    have zl := val_sz hR.len hR.sz hlo
    have zh := val_sz hR.len hR.sz hhi
    refine ⟨_, rfl, _, rfl, a, r, _, 413, 2001, rfl, hR.at_, l16, hR.sz, by decide, by decide, by decide, hlo, fun H1 s1 => ⟨_, rfl, ?_⟩⟩
    have hd : Sz 414 (hi - lo) := hhi.sub hlo
    refine ⟨_, rfl, _, rfl, _, rfl, _, _, rfl, rfl, _, rfl, _, _, rfl, rfl, hd.mulOk zl.neg (by decide), ?_⟩
    refine ⟨_, rfl, _, rfl, _, rfl, a, r, _, 413, 2001, rfl, (hR.same s1).at_, l16, hR.sz, by decide, by decide, by decide, hhi, fun H2 s2 => ?_⟩
    have hdiv : Sz 8301 (-M.val r lo + M.val r hi) := zl.neg.add zh
    refine ⟨_, _, rfl, rfl, _, _, rfl, rfl, ⟨by omega, ?_⟩, _, _, rfl, rfl, k _ H2 (s1.trans s2) ?_⟩
    · exact Nat.lt_trans (sz_log hdiv (by decide)) (by decide)
    · exact ((hlo.mono (by decide)).add (((hd.mul zl.neg).div).mono (b := 8799) (by decide))).mono (by decide)
/-- between two places the row does not fall -/
def Rise (r : List Int) (lo : Int) (hi : Int) : Prop := ∀ n m : Int, lo ≤ n → n ≤ m → m ≤ hi → M.val r n ≤ M.val r m
/-- what is known of parts while the gap is d -/
def PartsOk (p d : Int) : Prop := 2 ≤ p ∧ (Sz 830 p ∨ (d ≤ 2 ∧ Sz 1660 p) ∨ (d ≤ 1 ∧ Sz 3320 p))
def spBetween (K : PySem.W.Frag) : Sp := fun vs H Q _ => ∃ (a : Addr) (r : List Int) (lo hi : Int), vs = [.ref a, .int lo, .int hi] ∧ RowOk K H a r ∧ Sz 413 lo ∧ Sz 413 hi ∧ lo < hi ∧ M.val r lo < 0 ∧ 0 ≤ M.val r hi ∧ Rise r lo hi ∧
  ∀ (t : Int) (H' : Hp), Same H H' → lo < t → t ≤ hi → 0 ≤ M.val r t → (∀ n, lo ≤ n → n < t → M.val r n < 0) → Q (.int t) H'
abbrev s_first_between : Stmt := top 23
abbrev N_first_between : List Str := ["row", "below", "above", "parts", "unit", "guess", "n"]
theorem sc_first_between : FnScope N_first_between ["row", "below", "above"] (defScope s_first_between) := ⟨rfl, rfl, rfl, by decide +kernel, rfl, by decide +kernel, by decide +kernel⟩

theorem ok_first_between (F : Fun K "first_between" "first_between" s_first_between f fd) (T : Blt mg) (G_row_value : Has P w K mg base 2 "row_value" ["row", "n"] (spRowV K)) (G_straight_guess : Has P w K mg base 3 "straight_guess" ["row", "below", "above"] (spGuess K)) : FnOk P w K mg base CX0 4 f fd ["row", "below", "above"] (spBetween K) := by
  refine F.ok sc_first_between (fun vs H Q E h => ?_) (fun cdv A outer s H vs Q E hr h => ?_)
  · obtain ⟨_, _, _, _, rfl, _⟩ := h
    rfl
  · obtain ⟨a, r, lo, hi, rfl, hR, hlo, hhi, lt, nlo, nhi, rise, k⟩ := h
    refine ⟨_, (pss_cons (ps_set (i := 3) sc_first_between.nd rfl (Or.inl rfl) pe_int)
    (pss_cons (ps_while PassesOwn.never (pt_cmpR op_gt (pe_op op_sub (pv 2) (pv 1)) pe_int (nomark _))
      (pss_cons (ps_set (i := 4) sc_first_between.nd rfl (Or.inl rfl) (pe_op op_add (pe_op op_fdivW (pe_op op_sub (pv 2) (pv 1)) (pv 3)) pe_int))
      (pss_cons (ps_set (i := 5) sc_first_between.nd rfl (Or.inl rfl) (pe_has G_straight_guess (hr.mono (by decide)) (pa_cons (pv 0) (pa_cons (pv 1) (pa_cons (pv 2) pa_nil)))))
      (pss_cons (ps_for PassesOwn.never rfl (pi_tup (pe_tup (pa_cons (pe_op op_sub (pv 5) (pv 4)) (pa_cons (pe_op op_add (pv 5) (pv 4)) (pa_cons (pe_op op_fdivW (pe_op op_add (pv 1) (pv 2)) pe_int) pa_nil))))) (pg_name (i := 6) sc_first_between.nd rfl (Or.inl rfl))
        (pss_one (ps_if (pt_chain op_lt op_lt (pv 1) (pv 6) (pv 2))
          (pss_one (ps_if (pt_cmpR op_lt (pe_has G_row_value (hr.mono (by decide)) (pa_cons (pv 0) (pa_cons (pv 6) pa_nil))) pe_int (nomark _))
            (pss_one (ps_set (i := 1) sc_first_between.nd rfl (Or.inl rfl) (pv 6)))
            (pss_one (ps_set (i := 2) sc_first_between.nd rfl (Or.inl rfl) (pv 6)))))
          pss_nil)))
      (pss_one (ps_set (i := 3) sc_first_between.nd rfl (Or.inl rfl) (pe_ifExp (pt_cmpR op_le (pe_op op_sub (pv 2) (pv 1)) (pe_op op_mulW pe_int (pv 4)) (nomark _)) (pe_op op_mulW (pv 3) (pv 3)) pe_int)))))))
    (pss_one (ps_ret (pv 2))))), ?_⟩
    have l16 : r.length ≤ 16 := by have := hR.len; omega
    let Wf : Nat → L2.St → Hp → Prop := fun m σ H' => ∃ (b u p : Int) (v4 v5 v6 : Option V), m = (u - b).toNat ∧ σ = [some (.ref a), some (.int b), some (.int u), some (.int p), v4, v5, v6] ∧ Same H H' ∧ lo ≤ b ∧ b < u ∧ u ≤ hi ∧ M.val r b < 0 ∧ 0 ≤ M.val r u ∧ PartsOk p (u - b)
    refine ⟨Wf, ⟨_, lo, hi, 4, none, none, none, rfl, rfl, Same.refl _, Int.le_refl _, lt, Int.le_refl _, nlo, nhi, by decide, .inl (by unfold Sz; decide)⟩, ?_⟩
    rintro m σ H1 ⟨b, u, p, v4, v5, v6, rfl, rfl, sm, lb, bu, uh, nb, nu, hp⟩
    have zb : Sz 413 b := by
      unfold Sz at *
      omega
    have zu : Sz 413 u := by
      unfold Sz at *
      omega
    refine ⟨_, rfl, _, rfl, _, _, rfl, rfl, _, _, rfl, rfl, _, rfl, ?_⟩
    by_cases hd : 1 < u - b
    · rw [decide_eq_true hd]
      refine iteT ⟨fun σ' H' => ∃ m', m' < (u - b).toNat ∧ Wf m' σ' H', fun _ _ h => h, ?_⟩
      have hp0 : 0 < p := by have := hp.1; omega
      have hpz : Sz 3320 p := by
        rcases hp.2 with h | ⟨_, h⟩ | ⟨_, h⟩
        · exact h.mono (by decide)
        · exact h.mono (by decide)
        · exact h
      refine ⟨_, rfl, _, rfl, _, _, rfl, rfl, _, rfl, _, _, rfl, rfl, ⟨hp0, Nat.lt_trans (sz_log hpz (by decide)) (by decide)⟩, _, _, rfl, rfl, ?_⟩
      dsimp only
      have hun0 : 0 ≤ (u - b) / p := Int.ediv_nonneg (by omega) (by omega)
      refine ⟨_, rfl, _, rfl, _, rfl, a, r, b, u, rfl, hR.same sm, zb, zu, nb, nu, fun g H2 s2 hg => ?_⟩
      refine ⟨_, rfl, _, rfl, _, _, rfl, rfl, _, rfl, _, rfl, _, _, rfl, rfl, _, rfl, _, rfl, _, _, rfl, rfl, _, _, rfl, rfl, ⟨by decide, by decide⟩, (by show 3 ≤ sizeLine; decide), fun q nq => ⟨q, rfl, ⟨_, SqT.of upd_same⟩, ?_⟩⟩
      generalize hH : L2.upd H2 q _ = H3
      have s3 : Same H H3 := by
        rw [← hH]
        exact (sm.trans s2).trans (same_new (Same.refl H2) _ nq)
      have hq3 : SqT K H3 q [.int (g - ((u - b) / p + 1)), .int (g + ((u - b) / p + 1)), .int ((b + u) / 2)] := by
        rw [← hH]
        exact SqT.of upd_same
      clear hH
      refine for_tup (K := K) (a := q) (xs := [.int (g - ((u - b) / p + 1)), .int (g + ((u - b) / p + 1)), .int ((b + u) / 2)]) (fun i σ H' => ∃ (b2 u2 : Int) (v6 : Option V), σ = [some (.ref a), some (.int b2), some (.int u2), some (.int p), some (.int ((u - b) / p + 1)), some (.int g), v6] ∧ Same H3 H' ∧ b ≤ b2 ∧ b2 < u2 ∧ u2 ≤ u ∧ M.val r b2 < 0 ∧ 0 ≤ M.val r u2 ∧ (i = 3 → u2 - b2 < u - b)) ⟨b, u, v6, rfl, Same.refl _, Int.le_refl _, bu, Int.le_refl _, nb, nu, fun z => nomatch z⟩ ?_ ?_ ?_
      · rintro i σ H' hi ⟨b2, u2, v6, rfl, s4, _⟩
        exact sqT_same s4 hq3
      · rintro i x σ H4 hx ⟨b2, u2, v6, rfl, s4, h1, h2, h3, h4, h5, _⟩
        obtain ⟨z, rfl, hz⟩ : ∃ z, x = .int z ∧ (i + 1 = 3 → z = (b + u) / 2) := by
          match i, hx with
          | 0, hx => cases hx; exact ⟨_, rfl, fun z => by omega⟩
          | 1, hx => cases hx; exact ⟨_, rfl, fun z => by omega⟩
          | 2, hx => cases hx; exact ⟨_, rfl, fun _ => rfl⟩
        generalize (u - b) / p + 1 = un at hun0 hq3 ⊢
        have s04 := s3.trans s4
        by_cases c1 : b2 < z
        · by_cases c2 : z < u2
          · have zz : Sz 413 z := by
              unfold Sz at zb zu ⊢
              omega
            refine ⟨_, rfl, _, rfl, _, _, rfl, rfl, true, congrArg V.bl (decide_eq_true c1), iteT ⟨_, rfl, _, _, rfl, rfl, true, congrArg V.bl (decide_eq_true c2), iteT ?_⟩⟩
            refine ⟨_, rfl, _, rfl, a, r, z, 413, 2001, rfl, (hR.same s04).at_, l16, hR.sz, by decide, by decide, by decide, zz, fun H5 s5 => ⟨_, _, rfl, rfl, _, rfl, ite2 (fun h0 => ?_) (fun h0 => ?_)⟩⟩
            · have e : M.val r z < 0 := by simpa using h0
              exact ⟨_, rfl, z, u2, _, rfl, s4.trans s5, by omega, c2, h3, e, h5, fun _ => by omega⟩
            · have e : ¬ M.val r z < 0 := by simpa using h0
              exact ⟨_, rfl, b2, z, _, rfl, s4.trans s5, h1, c1, by omega, h4, by omega, fun _ => by omega⟩
          · refine ⟨_, rfl, _, rfl, _, _, rfl, rfl, true, congrArg V.bl (decide_eq_true c1), iteT ⟨_, rfl, _, _, rfl, rfl, false, congrArg V.bl (decide_eq_false c2), iteF ?_⟩⟩
            exact ⟨b2, u2, _, rfl, s4, h1, h2, h3, h4, h5, fun w => by have := hz w; omega⟩
        · refine ⟨_, rfl, _, rfl, _, _, rfl, rfl, false, congrArg V.bl (decide_eq_false c1), iteF ⟨false, rfl, iteF ?_⟩⟩
          exact ⟨b2, u2, _, rfl, s4, h1, h2, h3, h4, h5, fun w => by have := hz w; omega⟩
      · rintro σ H4 ⟨b2, u2, v6, rfl, s4, h1, h2, h3, h4, h5, h6⟩
        have h6 := h6 rfl
        have hd4 : Sz 414 (u - b) := zu.sub zb
        have zun : Sz 415 ((u - b) / p + 1) := hd4.div.add (sz_one.mono (by decide))
        refine ⟨_, rfl, _, rfl, _, _, rfl, rfl, _, rfl, _, _, rfl, rfl, Sz.mulOk (a := 2) (by unfold Sz; decide) zun (by decide), _, _, rfl, rfl, _, rfl, ite2 (fun h0 => ?_) (fun h0 => ?_)⟩
        · have e : u2 - b2 ≤ 2 * ((u - b) / p + 1) := by simpa using h0
          refine ⟨_, rfl, _, rfl, _, _, rfl, rfl, hpz.mulOk hpz (by decide), (u2 - b2).toNat, by omega, b2, u2, p * p, _, _, _, rfl, rfl, s3.trans s4, by omega, h2, by omega, h4, h5, ?_, ?_⟩
          · have := Int.mul_le_mul_of_nonneg_left hp.1 (Int.le_of_lt hp0)
            have := hp.1
            omega
          · rcases hp.2 with q1 | ⟨q0, q1⟩ | ⟨q0, q1⟩
            · by_cases pu : p ≤ u - b
              · have pz : Sz 414 p := by
                  unfold Sz at hd4 ⊢
                  omega
                exact .inl ((pz.mul pz).mono (by decide))
              · have e0 : (u - b) / p = 0 := Int.ediv_eq_zero_of_lt (by omega) (by omega)
                rw [e0] at e
                exact .inr (.inl ⟨by omega, q1.mul q1⟩)
            · exact .inr (.inr ⟨by omega, q1.mul q1⟩)
            · omega
        · exact ⟨(u2 - b2).toNat, by omega, b2, u2, 4, _, _, _, rfl, rfl, s3.trans s4, by omega, h2, by omega, h4, h5, by decide, .inl (by unfold Sz; decide)⟩
    · rw [decide_eq_false hd]
      refine iteF ⟨_, rfl, k u H1 sm (by omega) uh nu fun n h1 h2 => ?_⟩
      have := rise n b h1 (by omega) (by omega)
      omega
end
end EN

namespace EN
open PySem L2 PyProof.Rows
section
variable {P : Program} {w : World} {K : PySem.W.Frag} {mg : Str → Option Value} {base : Heap} {f : Addr} {fd : FuncData}
theorem two_pow_le {a b : Nat} (h : a ≤ b) : (2 : Int) ^ a ≤ 2 ^ b := by
  have := Nat.pow_le_pow_right (n := 2) (by decide) h
  have e : ∀ k : Nat, (2 : Int) ^ k = ((2 ^ k : Nat) : Int) := fun k => by simp
  rw [e, e]
  exact Int.ofNat_le.mpr this
theorem sz_lt {b : Nat} {x : Int} (h : Sz b x) : -(2 : Int) ^ b < x ∧ x < 2 ^ b := by
  have e : (2 : Int) ^ b = ((2 ^ b : Nat) : Int) := by simp
  unfold Sz at h
  rw [e]
  omega
/-- within the piece the row does not fall -/
def RiseI (r : List Int) (lo : Int) (hi : Option Int) : Prop := ∀ n m : Int, lo ≤ n → n ≤ m → (∀ h, hi = some h → m ≤ h) → M.val r n ≤ M.val r m
def FarI (r : List Int) (hi : Option Int) : Prop := hi = none → ∀ n : Int, 2 ^ 204 ≤ n → 0 ≤ M.val r n
theorem rch_far {r : List Int} {lo : Int} {hi : Option Int} (hlo : Sz 204 lo) (hhi : SzO 204 hi) (far : FarI r hi) {b : Nat} (hb : 205 ≤ b) : Rch r lo hi b := by
  have h1 := sz_lt hlo
  have h2 := two_pow_le hb
  have h3 : (2 : Int) ^ 205 = 2 * 2 ^ 204 := by decide +kernel
  rw [h3] at h2
  cases hi with
  | none => exact .inr (far rfl _ (by omega))
  | some h =>
    have h4 := sz_lt (hhi h rfl)
    exact .inl ⟨h, rfl, by omega⟩
def spFirst (K : PySem.W.Frag) : Sp := fun vs H Q _ => ∃ (a : Addr) (r : List Int) (lo : Int) (hi : Option Int), vs = [.ref a, .int lo, oV hi] ∧ RowOk K H a r ∧ Sz 204 lo ∧ SzO 204 hi ∧ (∀ h, hi = some h → lo ≤ h) ∧ RiseI r lo hi ∧ FarI r hi ∧
  ((∃ h, hi = some h ∧ M.val r h < 0) → ∀ H' : Hp, Same H H' → Q .non H') ∧
  ∀ (t : Int) (H' : Hp), Same H H' → lo ≤ t → (∀ h, hi = some h → t ≤ h) → 0 ≤ M.val r t → (∀ n, lo ≤ n → n < t → M.val r n < 0) → Q (.int t) H'
abbrev s_first_reached : Stmt := top 24
abbrev N_first_reached : List Str := ["row", "low", "high", "short", "above"]
theorem sc_first_reached : FnScope N_first_reached ["row", "low", "high"] (defScope s_first_reached) := ⟨rfl, rfl, rfl, by decide +kernel, rfl, by decide +kernel, by decide +kernel⟩

theorem ok_first_reached (F : Fun K "first_reached" "first_reached" s_first_reached f fd) (T : Blt mg) (G_row_value : Has P w K mg base 2 "row_value" ["row", "n"] (spRowV K)) (G_last_short : Has P w K mg base 4 "last_short" ["row", "low", "high"] (spLast K)) (G_first_between : Has P w K mg base 4 "first_between" ["row", "below", "above"] (spBetween K)) :
    FnOk P w K mg base CX0 5 f fd ["row", "low", "high"] (spFirst K) := by
  refine F.ok sc_first_reached (fun vs H Q E h => ?_) (fun cdv A outer s H vs Q E hr h => ?_)
  · obtain ⟨_, _, _, _, rfl, _⟩ := h
    rfl
  · obtain ⟨a, r, lo, hi, rfl, hR, hlo, hhi, lh, rise, far, k1, k2⟩ := h
    refine ⟨_, (pss_cons (ps_if (pt_cmpR op_ge (pe_has G_row_value (hr.mono (by decide)) (pa_cons (pv 0) (pa_cons (pv 1) pa_nil))) pe_int (nomark _))
      (pss_one (ps_ret (pv 1)))
      pss_nil)
    (Evl.pss_cut (ps_if (PW.pt (pw_and (pt_cmpR op_notN (pv 2) pe_non (nomark _)) (pw_and1 (pt_cmpR op_lt (pe_has G_row_value (hr.mono (by decide)) (pa_cons (pv 0) (pa_cons (pv 2) pa_nil))) pe_int (nomark _)))))
      (pss_one (ps_ret pe_non))
      pss_nil)
    (pss_cons (ps_set (i := 3) sc_first_reached.nd rfl (Or.inl rfl) (pe_has G_last_short (hr.mono (by decide)) (pa_cons (pv 0) (pa_cons (pv 1) (pa_cons (pv 2) pa_nil)))))
    (pss_cons (ps_set (i := 4) sc_first_reached.nd rfl (Or.inl rfl) (pe_op op_sub (pe_op op_add (pv 1) (pe_op op_shl pe_int (pe_op op_add (pv 3) pe_int))) pe_int))
    (Evl.pss_cut (ps_if (PW.pt (pw_and (pt_cmpR op_notN (pv 2) pe_non (nomark _)) (pw_and1 (pt_cmpR op_gt (pv 4) (pv 2) (nomark _)))))
      (pss_one (ps_set (i := 4) sc_first_reached.nd rfl (Or.inl rfl) (pv 2)))
      pss_nil)
    (pss_one (ps_ret (pe_has G_first_between (hr.mono (by decide)) (pa_cons (pv 0) (pa_cons (pe_op op_sub (pe_op op_add (pv 1) (pe_op op_shl pe_int (pv 3))) pe_int) (pa_cons (pv 4) pa_nil))))))))))), ?_⟩
    have l16 : r.length ≤ 16 := by have := hR.len; omega
    have z413 : Sz 413 lo := hlo.mono (by decide)
    refine ⟨_, rfl, _, rfl, a, r, lo, 413, 2001, rfl, hR.at_, l16, hR.sz, by decide, by decide, by decide, z413, fun H1 s1 => ⟨_, _, rfl, rfl, _, rfl, ite2 (fun h0 => ?_) (fun h0 => ?_)⟩⟩
    · have e : 0 ≤ M.val r lo := by simpa using h0
      exact ⟨_, rfl, k2 lo H1 s1 (Int.le_refl _) lh e fun n h1 h2 => by omega⟩
    have nlo : ¬ 0 ≤ M.val r lo := by simpa using h0
    clear h0
    refine ⟨fun σ H' => σ = [some (.ref a), some (.int lo), some (oV hi), none, none] ∧ Same H H' ∧ ∀ h, hi = some h → 0 ≤ M.val r h, ?_, ?_⟩
    · cases hi with
      | none => exact ⟨_, rfl, rfl, false, rfl, iteF ⟨rfl, s1, fun h z => nomatch z⟩⟩
      | some h =>
        refine ⟨_, rfl, rfl, true, rfl, iteT ⟨_, rfl, _, rfl, a, r, h, 413, 2001, rfl, (hR.same s1).at_, l16, hR.sz, by decide, by decide, by decide, (hhi h rfl).mono (by decide), fun H2 s2 => ⟨_, _, rfl, rfl, _, rfl, ite2 (fun h0 => ?_) (fun h0 => ?_)⟩⟩⟩
        · have e : M.val r h < 0 := by simpa using h0
          exact k1 ⟨h, rfl, e⟩ H2 (s1.trans s2)
        · have e : ¬ M.val r h < 0 := by simpa using h0
          exact ⟨rfl, s1.trans s2, fun h' z => by cases z; omega⟩
    rintro σ H2 ⟨rfl, s2, good⟩
    have n0 : ¬ Rch r lo hi 0 := by
      rintro (⟨h, e, l⟩ | l)
      · have e2 := lh h e
        have e3 := good h e
        have e4 : h = lo := by omega
        rw [e4] at e3
        exact nlo e3
      · rw [show lo + 2 ^ 0 - 1 = lo by omega] at l
        exact nlo l
    refine ⟨_, rfl, _, rfl, _, rfl, a, r, lo, hi, rfl, hR.same s2, hlo, n0, fun b hb => rch_far hlo hhi far hb, fun s H3 s3 ls ns ys => ?_⟩
    have s23 := s2.trans s3
    refine ⟨_, rfl, _, rfl, _, _, rfl, rfl, _, _, rfl, rfl, ⟨by omega, by omega, by decide⟩, ?_⟩
    refine ⟨_, _, rfl, rfl, _, _, rfl, rfl, ?_⟩
    rw [show ((s : Int) + 1) = ((s + 1 : Nat) : Int) by omega, pow1]
    have nb : M.val r (lo + 2 ^ s - 1) < 0 := Int.not_le.mp fun z => ns (.inr z)
    have nh : ∀ h, hi = some h → lo + 2 ^ s - 1 < h := fun h e => Int.not_le.mp fun z => ns (.inl ⟨h, e, z⟩)
    have pp : (2 : Int) ^ (s + 1) = 2 * 2 ^ s := by rw [Int.pow_succ, Int.mul_comm]
    have p1 : (1 : Int) ≤ 2 ^ s := two_pow_le (Nat.zero_le s)
    refine ⟨fun σ H' => ∃ u : Int, σ = [some (.ref a), some (.int lo), some (oV hi), some (.int (s : Int)), some (.int u)] ∧ Same H H' ∧ Sz 413 u ∧ lo + 2 ^ s - 1 < u ∧ (∀ h, hi = some h → u ≤ h) ∧ 0 ≤ M.val r u, ?_, ?_⟩
    · have zu := sz_at hlo (b := s + 1) (by omega)
      cases hi with
      | none =>
        refine ⟨_, rfl, rfl, false, rfl, iteF ⟨_, rfl, s23, zu, by omega, (fun h z => nomatch z), ?_⟩⟩
        rcases ys with ⟨h, e, _⟩ | h
        · cases e
        · exact h
      | some h =>
        have g := good h rfl
        have nh2 := nh h rfl
        refine ⟨_, rfl, rfl, true, rfl, iteT ⟨_, rfl, _, rfl, _, _, rfl, rfl, _, rfl, ite2 (fun h0 => ?_) (fun h0 => ?_)⟩⟩
        · have e : h < lo + 2 ^ (s + 1) - 1 := by simpa using h0
          exact ⟨_, rfl, h, rfl, s23, (hhi h rfl).mono (by decide), nh2, fun h' z => by cases z; omega, g⟩
        · have e : ¬ h < lo + 2 ^ (s + 1) - 1 := by simpa using h0
          refine ⟨_, rfl, s23, zu, by omega, fun h' z => by cases z; omega, ?_⟩
          rcases ys with ⟨h', z, l⟩ | l
          · cases z
            have : h = lo + 2 ^ (s + 1) - 1 := by omega
            rw [← this]
            exact g
          · exact l
    rintro σ H4 ⟨u, rfl, s4, zu, lu, uh, vu⟩
    refine ⟨_, rfl, _, rfl, _, rfl, _, _, rfl, rfl, ⟨by omega, by omega, by decide⟩, _, _, rfl, rfl, _, _, rfl, rfl, _, rfl, ?_⟩
    rw [pow1]
    refine ⟨a, r, lo + 2 ^ s - 1, u, rfl, hR.same s4, sz_at hlo (by omega), zu, lu, nb, vu, fun n m h1 h2 h3 => rise n m (by omega) h2 fun h e => by have := uh h e; omega, fun t H5 s5 h1 h2 h3 h4 => ?_⟩
    refine k2 t H5 (s4.trans s5) (by omega) (fun h e => by have := uh h e; omega) h3 fun n g1 g2 => ?_
    by_cases c : lo + 2 ^ s - 1 ≤ n
    · exact h4 n c g2
    · have := rise n (lo + 2 ^ s - 1) g1 (by omega) fun h e => by have := nh h e; omega
      omega
end
end EN

namespace EN
open PySem L2 PyProof.Rows
section
variable {P : Program} {w : World} {K : PySem.W.Frag} {mg : Str → Option Value} {base : Heap} {f : Addr} {fd : FuncData}
open SG
/-! ### the signs of a rising row -/
def TrsAt (K : PySem.W.Frag) (H : Hp) (bs : List Addr) (ts : List Tr) : Prop := bs.length = ts.length ∧ ∀ (i : Nat) (b : Addr) (t : Tr), bs[i]? = some b → ts[i]? = some t → SqT K H b [.int t.1, oV t.2.1, .int t.2.2]
theorem TrsAt.nil {H : Hp} : TrsAt K H [] [] := ⟨rfl, fun i b t h => by simp at h⟩
theorem TrsAt.same {H H' : Hp} {bs : List Addr} {ts : List Tr} (h : TrsAt K H bs ts) (s : Same H H') : TrsAt K H' bs ts := ⟨h.1, fun i b t e1 e2 => sqT_same s (h.2 i b t e1 e2)⟩
theorem TrsAt.get {H : Hp} {bs : List Addr} {ts : List Tr} (h : TrsAt K H bs ts) {i : Nat} (hi : i < ts.length) : ∃ b t, bs[i]? = some b ∧ ts[i]? = some t ∧ SqT K H b [.int t.1, oV t.2.1, .int t.2.2] := by
  have hb : i < bs.length := by rw [h.1]; exact hi
  exact ⟨bs[i], ts[i], List.getElem?_eq_getElem hb, List.getElem?_eq_getElem hi, h.2 i _ _ (List.getElem?_eq_getElem hb) (List.getElem?_eq_getElem hi)⟩
theorem TrsAt.snoc {H : Hp} {bs : List Addr} {ts : List Tr} {b : Addr} {t : Tr} (h : TrsAt K H bs ts) (ht : SqT K H b [.int t.1, oV t.2.1, .int t.2.2]) : TrsAt K H (bs ++ [b]) (ts ++ [t]) := by
  refine ⟨by rw [List.length_append, List.length_append, h.1]; rfl, fun i c q h1 h2 => ?_⟩
  by_cases hi : i < bs.length
  · rw [List.getElem?_append_left hi] at h1
    rw [List.getElem?_append_left (by rw [← h.1]; exact hi)] at h2
    exact h.2 i c q h1 h2
  · have hi2 : i = bs.length := by
      have := (List.getElem?_eq_some_iff.mp h1).1
      simp at this
      omega
    subst hi2
    rw [List.getElem?_append_right (Nat.le_refl _), Nat.sub_self] at h1
    rw [List.getElem?_append_right (by rw [h.1]; exact Nat.le_refl _), h.1, Nat.sub_self] at h2
    cases h1
    cases h2
    exact ht
theorem sqT_updL {H : Hp} {b l : Addr} {xs ys : List V} {o : HO} (h : SqT K H b xs) (hl : H l = some (.lst ys)) : SqT K (upd H l o) b xs := by
  have ne : ∀ u, H b = some u → (∀ zs, u ≠ .lst zs) → b ≠ l := fun u hu hn z => by
    rw [z, hl] at hu
    cases hu
    exact hn _ rfl
  rcases h with (h | ⟨ob, h⟩) | h
  · exact .inl (.inl (by rw [upd_ne (ne _ h fun zs z => nomatch z)]; exact h))
  · exact .inl (.inr ⟨ob, by rw [upd_ne (ne _ h fun zs z => nomatch z)]; exact h⟩)
  · exact .inr h
theorem TrsAt.upd {H : Hp} {bs : List Addr} {ts : List Tr} {l : Addr} {xs : List V} {o : HO} (h : TrsAt K H bs ts) (hl : H l = some (.lst xs)) : TrsAt K (L2.upd H l o) bs ts := ⟨h.1, fun i b t e1 e2 => sqT_updL (h.2 i b t e1 e2) hl⟩
theorem same_updN {H1 H' : Hp} {a : Addr} {o : HO} (h1 : H1 a = none) (s : Same H1 H') : Same H1 (upd H' a o) := fun b u hb => by
  rw [upd_ne (fun z => by rw [z, h1] at hb; cases hb)]
  exact s b u hb
/-- all seams are at most M -/
def Bn (M : Int) (ts : List Tr) : Prop := ∀ t ∈ ts, t.1 ≤ M ∧ ∀ h, t.2.1 = some h → h ≤ M
theorem Bn.append {M : Int} {ts us : List Tr} (h : Bn M ts) (g : Bn M us) : Bn M (ts ++ us) := fun t ht => (List.mem_append.mp ht).elim (h t) (g t)
/-- within the piece the row rises -/
def Strict (r : List Int) (lo : Int) (hi : Option Int) : Prop := ∀ n m : Int, lo ≤ n → n < m → (∀ h, hi = some h → m ≤ h) → M.val r n < M.val r m
def tA (lo t : Int) : List Tr := if lo < t then [(lo, some (t - 1), -1)] else []
def tB (r : List Int) (t : Int) : List Tr := if M.val r t = 0 then [(t, some t, 0)] else []
theorem tA_cov {f : Int → Int} {lo t : Int} {hi : Option Int} (lt : lo ≤ t) (bef : ∀ n, lo ≤ n → n < t → f n < 0) {us : List Tr} (c : Cov f t hi us) : Cov f lo hi (tA lo t ++ us) := by
  unfold tA
  by_cases h : lo < t
  · rw [if_pos h]
    refine cov_cons (fun n h1 h2 => sgn_neg (bef n h1 (by omega))) (by omega) ?_
    rw [show t - 1 + 1 = t by omega]
    exact c
  · rw [if_neg h]
    have : lo = t := by omega
    rw [this]
    exact c
theorem strict_pos {r : List Int} {lo : Int} {hi : Option Int} (st : Strict r lo hi) {t : Int} (lt : lo ≤ t) (vt : 0 ≤ M.val r t) {n : Int} (h : t < n) (hn : ∀ h, hi = some h → n ≤ h) : 0 < M.val r n := by
  have := st t n lt h hn
  omega
theorem tB_cov {r : List Int} {lo : Int} {hi : Option Int} (st : Strict r lo hi) {t : Int} (lt : lo ≤ t) (th : ∀ h, hi = some h → t ≤ h) (vt : 0 ≤ M.val r t) :
    ((∀ h, hi = some h → (if M.val r t = 0 then t + 1 else t) ≤ h) → Cov (M.val r) t hi (tB r t ++ [((if M.val r t = 0 then t + 1 else t), hi, 1)])) ∧
    ((∃ h, hi = some h ∧ ¬ (if M.val r t = 0 then t + 1 else t) ≤ h) → Cov (M.val r) t hi (tB r t)) := by
  unfold tB
  by_cases h0 : M.val r t = 0
  · rw [if_pos h0, if_pos h0]
    refine ⟨fun hh => cov_cons (fun n h1 h2 => ?_) (Int.le_refl _) (cov_one (fun n hn => sgn_pos (strict_pos st lt vt (by have := hn.1; omega) hn.2)) ⟨Int.le_refl _, hh⟩), fun ⟨h, e, g⟩ => ?_⟩
    · have : n = t := by omega
      rw [this, h0]
      rfl
    · have e2 := th h e
      have e3 : h = t := by omega
      rw [e, e3]
      refine cov_one (fun n hn => ?_) ⟨Int.le_refl _, fun k z => by cases z; exact Int.le_refl _⟩
      have : n = t := by
        have h1 := hn.1
        have h2 := hn.2 t rfl
        omega
      rw [this, h0]
      rfl
  · rw [if_neg h0, if_neg h0]
    refine ⟨fun hh => cov_one (fun n hn => sgn_pos ?_) ⟨Int.le_refl _, hh⟩, fun ⟨h, e, g⟩ => absurd (th h e) g⟩
    rcases Int.lt_or_eq_of_le hn.1 with h | h
    · exact strict_pos st lt vt h hn.2
    · rw [← h]
      omega
def spRising (K : PySem.W.Frag) : Sp := fun vs H Q _ => ∃ (a : Addr) (r : List Int) (lo B : Int) (hi : Option Int), vs = [.ref a, .int lo, oV hi] ∧ RowOk K H a r ∧ Sz 204 lo ∧ Sz 204 B ∧ SzO 204 hi ∧ lo ≤ B ∧ (∀ h, hi = some h → lo ≤ h ∧ h ≤ B) ∧ Strict r lo hi ∧ (hi = none → ∀ n : Int, B ≤ n → 0 < M.val r n) ∧
  ∀ (l : Addr) (bs : List Addr) (ts : List Tr) (H' : Hp), Same H H' → H' l = some (.lst (bs.map V.ref)) → TrsAt K H' bs ts → Cov (M.val r) lo hi ts → Bn B ts → ts.length ≤ 3 → Q (.ref l) H'
abbrev s_rising_signs : Stmt := top 25
abbrev N_rising_signs : List Str := ["row", "low", "high", "turn", "found", "behind"]
theorem sc_rising_signs : FnScope N_rising_signs ["row", "low", "high"] (defScope s_rising_signs) := ⟨rfl, rfl, rfl, by decide +kernel, rfl, by decide +kernel, by decide +kernel⟩

theorem ok_rising_signs (F : Fun K "rising_signs" "rising_signs" s_rising_signs f fd) (T : Blt mg) (G_row_value : Has P w K mg base 2 "row_value" ["row", "n"] (spRowV K)) (G_first_reached : Has P w K mg base 5 "first_reached" ["row", "low", "high"] (spFirst K)) :
    FnOk P w K mg base CX0 6 f fd ["row", "low", "high"] (spRising K) := by
  refine F.ok sc_rising_signs (fun vs H Q E h => ?_) (fun cdv A outer s H vs Q E hr h => ?_)
  · obtain ⟨_, _, _, _, _, rfl, _⟩ := h
    rfl
  · obtain ⟨a, r, lo, B, hi, rfl, hR, hlo, hB, hhi, lB, lh, st, far, k⟩ := h
    refine ⟨_, (pss_cons (ps_set (i := 3) sc_rising_signs.nd rfl (Or.inl rfl) (pe_has G_first_reached (hr.mono (by decide)) (pa_cons (pv 0) (pa_cons (pv 1) (pa_cons (pv 2) pa_nil)))))
    (pss_cons (ps_if (pt_cmpR op_isN (pv 3) pe_non (nomark _))
      (pss_one (ps_ret (pe_lst (pa_cons (pe_tup (pa_cons (pv 1) (pa_cons (pv 2) (pa_cons (pe_un un_neg pe_int) pa_nil)))) pa_nil))))
      pss_nil)
    (pss_cons (ps_set (i := 4) sc_rising_signs.nd rfl (Or.inl rfl) (pe_lst pa_nil))
    (Evl.pss_cut (ps_if (pt_cmpR op_gt (pv 3) (pv 1) (nomark _))
      (pss_one (ps_expr (pe_bm PySem.F.plainAttrs_list PySem.F.slot_list_append PySem.F.type_list_append mt_append (pv 4) (pa_cons (pe_tup (pa_cons (pv 1) (pa_cons (pe_op op_sub (pv 3) pe_int) (pa_cons (pe_un un_neg pe_int) pa_nil)))) pa_nil))))
      pss_nil)
    (pss_cons (ps_set (i := 5) sc_rising_signs.nd rfl (Or.inl rfl) (pv 3))
    (Evl.pss_cut (ps_if (pt_cmpR op_eq (pe_has G_row_value (hr.mono (by decide)) (pa_cons (pv 0) (pa_cons (pv 3) pa_nil))) pe_int (nomark _))
      (pss_cons (ps_expr (pe_bm PySem.F.plainAttrs_list PySem.F.slot_list_append PySem.F.type_list_append mt_append (pv 4) (pa_cons (pe_tup (pa_cons (pv 3) (pa_cons (pv 3) (pa_cons pe_int pa_nil)))) pa_nil)))
      (pss_one (ps_set (i := 5) sc_rising_signs.nd rfl (Or.inl rfl) (pe_op op_add (pv 3) pe_int))))
      pss_nil)
    (pss_cons (ps_if (PW.pt (pw_or (pt_cmpR op_isN (pv 2) pe_non (nomark _)) (pw_or1 (pt_cmpR op_le (pv 5) (pv 2) (nomark _)))))
      (pss_one (ps_expr (pe_bm PySem.F.plainAttrs_list PySem.F.slot_list_append PySem.F.type_list_append mt_append (pv 4) (pa_cons (pe_tup (pa_cons (pv 5) (pa_cons (pv 2) (pa_cons pe_int pa_nil)))) pa_nil))))
      pss_nil)
    (pss_one (ps_ret (pv 4)))))))))), ?_⟩
    have l16 : r.length ≤ 16 := by have := hR.len; omega
    have rise : RiseI r lo hi := fun n m h1 h2 h3 => by
      rcases Int.lt_or_eq_of_le h2 with h | h
      · exact Int.le_of_lt (st n m h1 h h3)
      · rw [h]; exact Int.le_refl _
    have farI : FarI r hi := fun z n hn => Int.le_of_lt (far z n (by have := (sz_lt hB).2; omega))
    refine ⟨_, rfl, _, rfl, _, rfl, a, r, lo, hi, rfl, hR, hlo, hhi, fun h e => (lh h e).1, rise, farI, fun ⟨h, e, neg⟩ H1 s1 => ?_, fun t H1 s1 lt th vt bef => ?_⟩
    · subst e
      refine ⟨_, rfl, rfl, true, rfl, iteT ⟨_, rfl, _, rfl, ?_⟩⟩
      refine ⟨1, rfl, (by show 3 ≤ sizeLine; decide), fun u nu => ?_⟩
      have s2 := same_new (Same.refl H1) (.tup [.int lo, .int h, .int (-1)]) nu
      have hu : SqT K (L2.upd H1 u (.tup [.int lo, .int h, .int (-1)])) u [.int lo, .int h, .int (-1)] := SqT.of upd_same
      refine ⟨(by show 1 ≤ sizeLine; decide), fun l nl => ?_⟩
      have s3 := s2.trans (same_new (Same.refl _) (.lst [.ref u]) nl)
      refine k l [u] [(lo, some h, -1)] _ (s1.trans s3) upd_same (TrsAt.snoc TrsAt.nil (sqT_same (same_new (Same.refl _) (.lst [.ref u]) nl) hu)) (cov_one (fun n hn => sgn_neg ?_) ⟨Int.le_refl _, fun k z => by cases z; exact (lh h rfl).1⟩) (fun t ht => ?_) (by simp)
      · have := rise n h hn.1 (hn.2 h rfl) fun k z => by cases z; exact Int.le_refl _
        omega
      · simp at ht
        rw [ht]
        exact ⟨lB, fun k z => by cases z; exact (lh h rfl).2⟩
    · have tB1 : t ≤ B := by
        cases hi with
        | some h => have := (lh h rfl).2; have := th h rfl; omega
        | none =>
          refine Int.not_lt.mp fun z => ?_
          have h1 := bef B lB z
          have h2 := far rfl B (Int.le_refl _)
          omega
      have tB2 : M.val r t = 0 → hi = none → t + 1 ≤ B := fun h0 hn => by
        refine Int.not_lt.mp fun z => ?_
        have := far hn t (by omega)
        omega
      refine ⟨_, rfl, rfl, false, rfl, iteF ⟨(by show 0 ≤ sizeLine; decide), fun g ng => ?_⟩⟩
      have s2 := s1.trans (same_new (Same.refl H1) (.lst []) ng)
      have ng0 : H g = none := s1.free ng
      have hg2 : (L2.upd H1 g (.lst [])) g = some (.lst (([] : List Addr).map V.ref)) := upd_same
      generalize L2.upd H1 g (.lst []) = H2 at s2 hg2 ⊢
      refine ⟨fun σ H' => σ = [some (.ref a), some (.int lo), some (oV hi), some (.int t), some (.ref g), none] ∧ Same H H' ∧ ∃ bs : List Addr, H' g = some (.lst (bs.map V.ref)) ∧ TrsAt K H' bs (tA lo t), ?_, ?_⟩
      · refine ⟨_, rfl, _, rfl, _, _, rfl, rfl, _, rfl, ite2 (fun h0 => ?_) (fun h0 => ?_)⟩
        · have e : lo < t := by simpa using h0
          refine ⟨_, rfl, .inl ⟨rfl, _, SqL.of hg2⟩, _, rfl, _, rfl, _, _, rfl, rfl, 1, rfl, (by show 3 ≤ sizeLine; decide), fun u nu => ?_⟩
          have s3 := same_new (Same.refl H2) (.tup [.int lo, .int (t - 1), .int (-1)]) nu
          have hu : SqT K (L2.upd H2 u (.tup [.int lo, .int (t - 1), .int (-1)])) u [.int lo, .int (t - 1), .int (-1)] := SqT.of upd_same
          refine ⟨g, _, _, rfl, rfl, s3 _ _ hg2, (by show 0 < sizeLine; decide), rfl, same_updN ng0 (s2.trans s3), [u], upd_same, ?_⟩
          rw [tA, if_pos e]
          exact (TrsAt.snoc TrsAt.nil hu).upd (s3 _ _ hg2)
        · have e : ¬ lo < t := by simpa using h0
          refine ⟨rfl, s2, [], hg2, ?_⟩
          rw [tA, if_neg e]
          exact TrsAt.nil
      rintro σ H3 ⟨rfl, s3, bs, hg3, hbs⟩
      have z413 : Sz 413 t := by
        have h1 := sz_lt hlo
        have h2 := sz_lt hB
        refine Sz.mono (a := 204) ?_ (by decide)
        unfold Sz at hlo hB ⊢
        omega
      have lA : bs.length ≤ 1 := by
        rw [hbs.1, tA]
        by_cases h : lo < t
        · rw [if_pos h]; simp
        · rw [if_neg h]; simp
      refine ⟨_, rfl, fun σ H' => σ = [some (.ref a), some (.int lo), some (oV hi), some (.int t), some (.ref g), some (.int (if M.val r t = 0 then t + 1 else t))] ∧ Same H H' ∧ ∃ bs : List Addr, H' g = some (.lst (bs.map V.ref)) ∧ TrsAt K H' bs (tA lo t ++ tB r t) ∧ bs.length ≤ 2, ?_, ?_⟩
      · refine ⟨_, rfl, _, rfl, a, r, t, 413, 2001, rfl, (hR.same s3).at_, l16, hR.sz, by decide, by decide, by decide, z413, fun H4 s4 => ⟨rfl, _, rfl, ite2 (fun h0 => ?_) (fun h0 => ?_)⟩⟩
        · have e : M.val r t = 0 := by simpa using h0
          have hg4 := s4 _ _ hg3
          refine ⟨_, rfl, .inl ⟨rfl, _, SqL.of hg4⟩, _, rfl, _, rfl, (by show 3 ≤ sizeLine; decide), fun u nu => ?_⟩
          have s5 := same_new (Same.refl H4) (.tup [.int t, .int t, .int 0]) nu
          have hu : SqT K (L2.upd H4 u (.tup [.int t, .int t, .int 0])) u [.int t, .int t, .int 0] := SqT.of upd_same
          refine ⟨g, _, _, rfl, rfl, s5 _ _ hg4, small1000 (by rw [List.length_map]; omega), _, rfl, _, _, rfl, rfl, ?_, same_updN ng0 (s3.trans (s4.trans s5)), bs ++ [u], by rw [upd_same, List.map_append]; rfl, ?_, by simp; omega⟩
          · rw [if_pos e]
            rfl
          · rw [tB, if_pos e]
            exact (TrsAt.snoc (hbs.same (s4.trans s5)) hu).upd (s5 _ _ hg4)
        · have e : ¬ M.val r t = 0 := by simpa using h0
          refine ⟨?_, s3.trans s4, bs, s4 _ _ hg3, ?_, by omega⟩
          · rw [if_neg e]
            rfl
          · rw [tB, if_neg e, List.append_nil]
            exact hbs.same s4
      rintro σ H4 ⟨rfl, s4, bs, hg4, hbs, lb⟩
      obtain ⟨cv1, cv2⟩ := tB_cov st lt th vt
      have bnA : Bn B (tA lo t) := fun q hq => by
        unfold tA at hq
        by_cases h : lo < t
        · rw [if_pos h] at hq
          simp at hq
          rw [hq]
          exact ⟨lB, fun k z => by cases z; omega⟩
        · rw [if_neg h] at hq
          cases hq
      have bnB : Bn B (tB r t) := fun q hq => by
        unfold tB at hq
        by_cases h : M.val r t = 0
        · rw [if_pos h] at hq
          simp at hq
          rw [hq]
          exact ⟨tB1, fun k z => by cases z; exact tB1⟩
        · rw [if_neg h] at hq
          cases hq
      have bh : (∀ h, hi = some h → (if M.val r t = 0 then t + 1 else t) ≤ h) → (if M.val r t = 0 then t + 1 else t) ≤ B := fun hh => by
        cases hi with
        | some h => have := hh h rfl; have := (lh h rfl).2; omega
        | none =>
          by_cases h : M.val r t = 0
          · rw [if_pos h]; exact tB2 h rfl
          · rw [if_neg h]; exact tB1
      generalize (if M.val r t = 0 then t + 1 else t) = b at cv1 cv2 bh ⊢
      have fin : (∀ h, hi = some h → b ≤ h) → ∀ (u : Addr) (H' : Hp), Same H4 H' → H' g = some (.lst (bs.map V.ref)) → SqT K H' u [.int b, oV hi, .int 1] → Q (.ref g) (L2.upd H' g (.lst (bs.map V.ref ++ [.ref u]))) := fun hh u H' s5 hg5 hu => by
        refine k g (bs ++ [u]) (tA lo t ++ tB r t ++ [(b, hi, 1)]) _ (same_updN ng0 (s4.trans s5)) (by rw [upd_same, List.map_append]; rfl) ((TrsAt.snoc (hbs.same s5) hu).upd hg5) ?_ ?_ ?_
        · rw [List.append_assoc]
          exact tA_cov lt bef (cv1 hh)
        · refine (bnA.append bnB).append fun q hq => ?_
          simp at hq
          rw [hq]
          exact ⟨bh hh, fun k z => (lh k z).2⟩
        · have := hbs.1
          rw [List.length_append, ← this]
          simp
          omega
      cases hi with
      | none =>
        refine ⟨_, rfl, rfl, true, rfl, iteT ⟨_, rfl, .inl ⟨rfl, _, SqL.of hg4⟩, _, rfl, _, rfl, (by show 3 ≤ sizeLine; decide), fun u nu => ?_⟩⟩
        have s5 := same_new (Same.refl H4) (.tup [.int b, .non, .int 1]) nu
        exact ⟨g, _, _, rfl, rfl, s5 _ _ hg4, small1000 (by rw [List.length_map]; omega), _, rfl, fin (fun h z => nomatch z) u _ s5 (s5 _ _ hg4) (SqT.of upd_same)⟩
      | some h =>
        refine ⟨_, rfl, rfl, false, rfl, iteF ⟨_, rfl, _, rfl, _, _, rfl, rfl, _, rfl, ite2 (fun h0 => ?_) (fun h0 => ?_)⟩⟩
        · have e : b ≤ h := by simpa using h0
          refine ⟨_, rfl, .inl ⟨rfl, _, SqL.of hg4⟩, _, rfl, _, rfl, (by show 3 ≤ sizeLine; decide), fun u nu => ?_⟩
          have s5 := same_new (Same.refl H4) (.tup [.int b, .int h, .int 1]) nu
          exact ⟨g, _, _, rfl, rfl, s5 _ _ hg4, small1000 (by rw [List.length_map]; omega), _, rfl, fin (fun h' z => by cases z; exact e) u _ s5 (s5 _ _ hg4) (SqT.of upd_same)⟩
        · have e : ¬ b ≤ h := by simpa using h0
          refine ⟨_, rfl, k g bs (tA lo t ++ tB r t) H4 s4 hg4 hbs (tA_cov lt bef (cv2 ⟨h, rfl, e⟩)) (bnA.append bnB) ?_⟩
          rw [← hbs.1]
          omega
end
end EN

namespace EN
open PySem L2 PyProof.Rows
section
variable {P : Program} {w : World} {K : PySem.W.Frag} {mg : Str → Option Value} {base : Heap} {f : Addr} {fd : FuncData}
open SG
theorem yesT' {σ : L2.St} {H : Hp} {R : Bool → Hp → Prop} (h : R true H) : tYes σ H R := h
theorem cov_vals {f : Int → Int} {lo : Int} {hi : Option Int} {ts : List Tr} (c : Cov f lo hi ts) : ∀ t ∈ ts, Sz 1 t.2.2 := fun t ht => by
  obtain ⟨_, h2, h3, _⟩ := cov_mem c t ht
  rw [← h3 t.1 h2]
  rcases sgn_vals (f t.1) with h | h | h <;> (rw [h]; unfold Sz; decide)
def spSlope (K : PySem.W.Frag) : Sp := fun vs H Q _ => ∃ (a : Addr) (r : List Int) (lo B sl : Int) (hi : Option Int), vs = [.ref a, .int lo, oV hi, .int sl] ∧ SeqI K H a r ∧ r.length ≤ 6 ∧ SzA 2000 r ∧ Sz 204 lo ∧ Sz 204 B ∧ SzO 204 hi ∧ lo ≤ B ∧ (∀ h, hi = some h → lo ≤ h ∧ h ≤ B) ∧
  (∀ n, InI lo hi n → sgn (M.val r (n + 1) - M.val r n) = sl) ∧ (hi = none → sl ≠ 0 ∧ ∀ n : Int, B ≤ n → 0 < M.val r n * sl) ∧
  ∀ (l : Addr) (bs : List Addr) (ts : List Tr) (H' : Hp), Same H H' → H l = none → H' l = some (.lst (bs.map V.ref)) → TrsAt K H' bs ts → Cov (M.val r) lo hi ts → Bn B ts → ts.length ≤ 3 → Q (.ref l) H'
abbrev s_slope_signs : Stmt := top 26
abbrev N_slope_signs : List Str := ["row", "low", "high", "slope", "rising", "first", "last", "sign"]
theorem sc_slope_signs : FnScope N_slope_signs ["row", "low", "high", "slope"] (defScope s_slope_signs) := ⟨rfl, rfl, rfl, by decide +kernel, rfl, by decide +kernel, by decide +kernel⟩

theorem ok_slope_signs (F : Fun K "slope_signs" "slope_signs" s_slope_signs f fd) (T : Blt mg) (G_row_value : Has P w K mg base 2 "row_value" ["row", "n"] (spRowV K)) (G_sign_of : Has P w K mg base 1 "sign_of" ["value"] spSignOf) (G_row_times : Has P w K mg base 1 "row_times" ["row", "factor"] (spRowTimes K)) (G_rising_signs : Has P w K mg base 6 "rising_signs" ["row", "low", "high"] (spRising K)) :
    FnOk P w K mg base CX0 7 f fd ["row", "low", "high", "slope"] (spSlope K) := by
  refine F.ok sc_slope_signs (fun vs H Q E h => ?_) (fun cdv A outer s H vs Q E hr h => ?_)
  · obtain ⟨_, _, _, _, _, _, rfl, _⟩ := h
    rfl
  · obtain ⟨a, r, lo, B, sl, hi, rfl, hS, hl, hz, hlo, hB, hhi, lB, lh, stp, far, k⟩ := h
    refine ⟨_, (pss_cons (ps_if (pt_cmpR op_eq (pv 3) pe_int (nomark _))
      (pss_one (ps_ret (pe_lst (pa_cons (pe_tup (pa_cons (pv 1) (pa_cons (pv 2) (pa_cons (pe_has G_sign_of (hr.mono (by decide)) (pa_cons (pe_has G_row_value (hr.mono (by decide)) (pa_cons (pv 0) (pa_cons (pv 1) pa_nil))) pa_nil)) pa_nil)))) pa_nil))))
      pss_nil)
    (pss_cons (ps_set (i := 4) sc_slope_signs.nd rfl (Or.inl rfl) (pe_has G_row_times (hr.mono (by decide)) (pa_cons (pv 0) (pa_cons (pv 3) pa_nil))))
    (pss_one (ps_ret (pe_lc (own := [("first", 5), ("last", 6), ("sign", 7)]) (g := gTup K 3 (gCons (gName 5) (gCons (gName 6) (gCons (gName 7) gNil)))) (tt := tYes) (by rfl) sc_slope_signs.nd (pi_list (pe_has G_rising_signs (hr.mono (by decide)) (pa_cons (pv 4) (pa_cons (pv 1) (pa_cons (pv 2) pa_nil))))) (blkOk_by (own := [("first", 5), ("last", 6), ("sign", 7)]) (N := N_slope_signs) (sc := defScope s_slope_signs) (by decide +kernel)) (fun _ _ _ _ _ => (pg_tup rfl (pgs_cons (pg_name (i := 5) sc_slope_signs.nd rfl (by first | exact Or.inl rfl | exact Or.inr rfl)) (pgs_cons (pg_name (i := 6) sc_slope_signs.nd rfl (by first | exact Or.inl rfl | exact Or.inr rfl)) (pgs_cons (pg_name (i := 7) sc_slope_signs.nd rfl (by first | exact Or.inl rfl | exact Or.inr rfl)) pgs_nil))))) (fun _ _ _ _ _ => pts_nil) (fun _ _ _ _ _ => (pe_tup (pa_cons (pv 5) (pa_cons (pv 6) (pa_cons (pe_op op_mulW (pv 7) (pv 3)) pa_nil)))))))))), ?_⟩
    have l16 : r.length ≤ 16 := by omega
    have ne : InI lo hi lo := ⟨Int.le_refl _, fun h e => (lh h e).1⟩
    refine ⟨_, rfl, rfl, _, rfl, ite2 (fun h0 => ?_) (fun h0 => ?_)⟩
    · have e : sl = 0 := by simpa using h0
      subst e
      refine ⟨_, rfl, _, rfl, _, rfl, _, rfl, a, r, lo, 413, 2001, rfl, hS, l16, hz.mono (by decide), by decide, by decide, by decide, hlo.mono (by decide), fun H1 s1 => ⟨_, rfl, (by show 3 ≤ sizeLine; decide), fun u nu => ?_⟩⟩
      have s2 := same_new (Same.refl H1) (.tup [.int lo, oV hi, .int (sgn (M.val r lo))]) nu
      have hu : SqT K (L2.upd H1 u (.tup [.int lo, oV hi, .int (sgn (M.val r lo))])) u [.int lo, oV hi, .int (sgn (M.val r lo))] := SqT.of upd_same
      refine ⟨(by show 1 ≤ sizeLine; decide), fun l nl => ?_⟩
      have s3 := same_new (Same.refl _) (.lst [.ref u]) nl
      refine k l [u] [(lo, hi, sgn (M.val r lo))] _ (s1.trans (s2.trans s3)) ((s1.trans s2).free nl) upd_same (TrsAt.snoc TrsAt.nil (sqT_same s3 hu)) (cov_one (fun n hn => ?_) ne) (fun t ht => ?_) (by simp)
      · have c := const_on (f := M.val r) (lo := lo) (hi := hi) (fun m hm => by
          have := stp m hm
          rcases sgn_cases (M.val r (m + 1) - M.val r m) with ⟨x, y⟩ | ⟨x, y⟩ | ⟨x, y⟩ <;> omega) (n - lo).toNat (by
          have h1 := hn.1
          rw [show lo + (((n - lo).toNat : Nat) : Int) = n by omega]
          exact hn)
        have h1 := hn.1
        rw [show lo + (((n - lo).toNat : Nat) : Int) = n by omega] at c
        rw [c]
      · simp at ht
        rw [ht]
        exact ⟨lB, fun h e => (lh h e).2⟩
    · have e : sl ≠ 0 := by simpa using h0
      have e1 : sl = 1 ∨ sl = -1 := by
        have := stp lo ne
        rcases sgn_vals (M.val r (lo + 1) - M.val r lo) with h | h | h <;> omega
      have zs : Sz 1 sl := by
        rcases e1 with h | h <;> (rw [h]; unfold Sz; decide)
      have vt : ∀ n, M.val (M.times r sl) n = M.val r n * sl := fun n => M.times_val r sl n
      refine ⟨_, rfl, _, rfl, a, r, sl, 2000, 1, rfl, hS, by omega, hz, zs, by decide, fun m H1 s1 nm hm => ?_⟩
      have hR : RowOk K H1 m (M.times r sl) := ⟨.inl (SqL.of hm), by rw [M.times_len]; exact hl, (hz.times zs).mono (by decide)⟩
      have strict : Strict (M.times r sl) lo hi := fun n m h1 h2 h3 => by
        have := step_strict (g := M.val (M.times r sl)) (lo := lo) (hi := hi) (fun j hj => by
          rw [vt, vt]
          have := sgn_one (stp j hj) e1
          rw [Int.sub_mul] at this
          omega) n h1 (m - n - 1).toNat (fun j z => by have := h3 j z; omega)
        rw [show n + ((((m - n - 1).toNat : Nat) : Int) + 1) = m by omega] at this
        exact this
      refine ⟨_, rfl, _, rfl, _, rfl, m, M.times r sl, lo, B, hi, rfl, hR, hlo, hB, hhi, lB, lh, strict, fun z n hn => by rw [vt]; exact (far z).2 n hn, fun l bs ts H2 s2 hl2 hbs cv bn len => ⟨l, rfl, ⟨_, SqL.of hl2⟩, fun D hD => ?_⟩⟩
      refine ZK.lc_growF (J := Itl K l) ts.length (small1000 (by omega)) (fun i acc H' => Same H2 H' ∧ ∃ es : List Addr, acc = es.map V.ref ∧ TrsAt K H' es ((ts.take i).map (flipT sl))) ⟨same_new (Same.refl _) _ hD, [], rfl, TrsAt.nil⟩ ?_ ?_ ?_ ?_
      · rintro j acc H' hj ⟨s', _⟩
        exact ⟨_, _, s'.seq (SqL.of hl2), List.getElem?_eq_getElem (by rw [List.length_map, hbs.1]; exact hj)⟩
      · rintro acc H' ⟨s', _⟩
        exact ⟨_, s'.seq (SqL.of hl2), by rw [List.length_map, hbs.1]; exact Nat.le_refl _⟩
      · rintro j H3' y H3 acc hj ⟨s3, es, rfl, hes⟩ hacc hal ⟨rfl, hy⟩ N hN
        have hyy := hy _ (s3.seq (SqL.of hl2))
        obtain ⟨b, t, eb, et, hb⟩ := hbs.get hj
        rw [List.getElem?_map, eb] at hyy
        cases hyy
        have hb3 := sqT_same s3 hb
        have zt := cov_vals cv t (List.mem_of_getElem? et)
        refine ⟨b, _, rfl, hb3, rfl, _, _, rfl, _, _, rfl, _, _, rfl, rfl, rfl, yesT' (iteT ?_)⟩
        refine ⟨_, rfl, _, rfl, _, rfl, _, rfl, _, _, rfl, rfl, zt.mulOk zs (by decide), (by show 3 ≤ sizeLine; decide), fun u nu => ?_⟩
        have s4 := same_new (Same.refl H3) (.tup [.int t.1, oV t.2.1, .int (t.2.2 * sl)]) nu
        have hu : SqT K (L2.upd H3 u (.tup [.int t.1, oV t.2.1, .int (t.2.2 * sl)])) u [.int t.1, oV t.2.1, .int (t.2.2 * sl)] := SqT.of upd_same
        have hacc4 := s4 _ _ hacc
        refine ⟨es.map V.ref, hacc4, small1000 (by omega), hN _ (es.map V.ref ++ [.ref u]) ⟨same_but_new (s3.trans s4) hD, es ++ [u], by rw [List.map_append]; rfl, ?_⟩ upd_same (by simp at hal ⊢; omega)⟩
        have et2 : (ts.take (j + 1)).map (flipT sl) = (ts.take j).map (flipT sl) ++ [flipT sl t] := by
          rw [List.take_succ, et, List.map_append]
          rfl
        rw [et2]
        exact (TrsAt.snoc (hes.same s4) hu).upd hacc4
      · rintro H3 acc ⟨s3, es, rfl, hes⟩ hacc hal
        rw [List.take_length] at hes
        refine k D es (ts.map (flipT sl)) H3 (s1.trans (s2.trans s3)) ((s1.trans s2).free hD) hacc hes (cov_flip e1 vt cv) (fun t ht => ?_) (by rw [List.length_map]; exact len)
        obtain ⟨u, hu, rfl⟩ := List.mem_map.mp ht
        exact bn u hu
end
end EN

namespace EN
open PySem L2 PyProof.Rows
section
variable {P : Program} {w : World} {K : PySem.W.Frag} {mg : Str → Option Value} {base : Heap} {f : Addr} {fd : FuncData}
open SG
theorem ixN_last (n : Nat) : ixN (n + 1) (-1) = some n := by
  unfold ixN
  rw [if_neg (by decide)]
  first
    | (rw [if_pos (by omega)]; congr 1; omega)
    | (simp; omega)
theorem at_last {zs : List V} {y : V} : atI (zs ++ [y]) (-1) = some y := by
  unfold atI
  rw [List.length_append, show zs.length + [y].length = zs.length + 1 from rfl, ixN_last]
  simp
theorem TrsAt.split {H : Hp} {bs : List Addr} {F : List Tr} {u : Tr} (h : TrsAt K H bs (F ++ [u])) : ∃ cs b, bs = cs ++ [b] ∧ TrsAt K H cs F ∧ SqT K H b [.int u.1, oV u.2.1, .int u.2.2] := by
  rcases List.eq_nil_or_concat bs with rfl | ⟨cs, b, rfl⟩
  · have := h.1
    simp at this
  · rw [List.concat_eq_append] at h ⊢
    have hl : cs.length = F.length := by
      have := h.1
      simp at this
      exact this
    refine ⟨cs, b, rfl, ⟨hl, fun i c t e1 e2 => ?_⟩, ?_⟩
    · have h1 := (List.getElem?_eq_some_iff.mp e1).1
      exact h.2 i c t (by rw [List.getElem?_append_left h1]; exact e1) (by rw [List.getElem?_append_left (by omega)]; exact e2)
    · exact h.2 cs.length b u (by simp) (by rw [hl]; simp)
def spJoinS (K : PySem.W.Frag) : Sp := fun vs H Q _ => ∃ (a : Addr) (bs : List Addr) (ts : List Tr), vs = [.ref a] ∧ SqL K H a (bs.map V.ref) ∧ TrsAt K H bs ts ∧ ts.length ≤ 900 ∧
  ∀ (l : Addr) (cs : List Addr) (H' : Hp), Same H H' → H l = none → H' l = some (.lst (cs.map V.ref)) → TrsAt K H' cs (ts.foldl jst []) → Q (.ref l) H'
abbrev s_joined_signs : Stmt := top 27
abbrev N_joined_signs : List Str := ["triples", "found", "low", "high", "sign"]
theorem sc_joined_signs : FnScope N_joined_signs ["triples"] (defScope s_joined_signs) := ⟨rfl, rfl, rfl, by decide +kernel, rfl, by decide +kernel, by decide +kernel⟩

theorem ok_joined_signs (F : Fun K "joined_signs" "joined_signs" s_joined_signs f fd) (T : Blt mg) : FnOk P w K mg base CX0 1 f fd ["triples"] (spJoinS K) := by
  refine F.ok sc_joined_signs (fun vs H Q E h => ?_) (fun cdv A outer s H vs Q E hr h => ?_)
  · obtain ⟨_, _, _, rfl, _⟩ := h
    rfl
  · obtain ⟨a, bs, ts, rfl, hS, hA, hl, k⟩ := h
    refine ⟨_, (pss_cons (ps_set (i := 1) sc_joined_signs.nd rfl (Or.inl rfl) (pe_lst pa_nil))
    (pss_cons (ps_for PassesOwn.never rfl (pi_list (pv 0)) (pg_tup rfl (pgs_cons (pg_name (i := 2) sc_joined_signs.nd rfl (Or.inl rfl)) (pgs_cons (pg_name (i := 3) sc_joined_signs.nd rfl (Or.inl rfl)) (pgs_cons (pg_name (i := 4) sc_joined_signs.nd rfl (Or.inl rfl)) pgs_nil))))
      (pss_one (ps_if (PW.pt (pw_and (pt_truth (pv 1) (by intro _; rfl)) (pw_and1 (pt_cmpR op_eq (pe_ix (show IxR _ (rIxT K) from ix_tup) (pe_ix (show IxR _ (rIxL K) from ix_list) (pv 1) (pe_un un_neg pe_int) (fun _ _ => rfl)) pe_int (fun _ _ => rfl)) (pv 4) (nomark _)))))
        (pss_one (ps_asg (pe_tup (pa_cons (pe_ix (show IxR _ (rIxT K) from ix_tup) (pe_ix (show IxR _ (rIxL K) from ix_list) (pv 1) (pe_un un_neg pe_int) (fun _ _ => rfl)) pe_int (fun _ _ => rfl)) (pa_cons (pv 3) (pa_cons (pv 4) pa_nil)))) (pg_sub (pv 1) (pe_un un_neg pe_int) set_list)))
        (pss_one (ps_expr (pe_bm PySem.F.plainAttrs_list PySem.F.slot_list_append PySem.F.type_list_append mt_append (pv 1) (pa_cons (pe_tup (pa_cons (pv 2) (pa_cons (pv 3) (pa_cons (pv 4) pa_nil)))) pa_nil)))))))
    (pss_one (ps_ret (pv 1))))), ?_⟩
    refine ⟨(by show 0 ≤ sizeLine; decide), fun d hd => ?_⟩
    have s0 := same_new (Same.refl H) (.lst []) hd
    refine ⟨_, rfl, a, rfl, ⟨_, s0.seq hS⟩, ?_⟩
    refine for_list (K := K) (a := a) (xs := bs.map V.ref) (fun i σ H' => ∃ (cs : List Addr) (v2 v3 v4 : Option V), σ = [some (.ref a), some (.ref d), v2, v3, v4] ∧ Same H H' ∧ H' d = some (.lst (cs.map V.ref)) ∧ TrsAt K H' cs ((ts.take i).foldl jst [])) ⟨[], none, none, none, rfl, s0, upd_same, TrsAt.nil⟩ (fun i σ H' _ h => by obtain ⟨_, _, _, _, _, s1, _⟩ := h; exact s1.seq hS) ?_ ?_
    · rintro i x σ H1 hx ⟨cs, v2, v3, v4, rfl, s1, hd1, hP⟩
      have il : i < ts.length := by
        have := (List.getElem?_eq_some_iff.mp hx).1
        rwa [List.length_map, hA.1] at this
      obtain ⟨b, t, eb, et, hb⟩ := hA.get il
      rw [List.getElem?_map, eb] at hx
      cases hx
      obtain ⟨lo, hi, m⟩ := t
      have hb1 := sqT_same s1 hb
      have tk : (ts.take (i + 1)).foldl jst [] = jst ((ts.take i).foldl jst []) (lo, hi, m) := by rw [List.take_succ, et, List.foldl_append]; rfl
      have lc : cs.length ≤ 900 := by
        have h1 := fold_len (ts.take i) []
        rw [hP.1]
        rw [List.length_take] at h1
        simp at h1
        omega
      rw [tk]
      generalize (ts.take i).foldl jst [] = acc at hP
      refine ⟨b, _, rfl, hb1, rfl, _, _, rfl, _, _, rfl, _, _, rfl, rfl, ?_⟩
      have app : ∀ (u : Addr), H1 u = none → (jst acc (lo, hi, m) = acc ++ [(lo, hi, m)]) → ∃ (cs2 : List Addr) (v2 v3 v4 : Option V), [some (.ref a), some (.ref d), some (.int lo), some (oV hi), some (.int m)] = [some (V.ref a), some (.ref d), v2, v3, v4] ∧ Same H (L2.upd (L2.upd H1 u (.tup [.int lo, oV hi, .int m])) d (.lst (cs.map V.ref ++ [.ref u]))) ∧ (L2.upd (L2.upd H1 u (.tup [.int lo, oV hi, .int m])) d (.lst (cs.map V.ref ++ [.ref u]))) d = some (.lst (cs2.map V.ref)) ∧ TrsAt K (L2.upd (L2.upd H1 u (.tup [.int lo, oV hi, .int m])) d (.lst (cs.map V.ref ++ [.ref u]))) cs2 (jst acc (lo, hi, m)) := fun u nu e => by
        have s2 := same_new (Same.refl H1) (.tup [.int lo, oV hi, .int m]) nu
        refine ⟨cs ++ [u], _, _, _, rfl, same_but_new (s1.trans s2) hd, by rw [upd_same, List.map_append]; rfl, ?_⟩
        rw [e]
        exact (TrsAt.snoc (hP.same s2) (SqT.of upd_same)).upd (s2 _ _ hd1)
      rcases List.eq_nil_or_concat acc with rfl | ⟨G, g, rfl⟩
      · have e0 : cs = [] := List.eq_nil_of_length_eq_zero hP.1
        subst e0
        refine ⟨_, rfl, false, .inl ⟨_, SqL.of hd1, rfl⟩, iteF ?_⟩
        refine ⟨_, rfl, .inl ⟨rfl, _, SqL.of hd1⟩, _, rfl, _, rfl, _, rfl, (by show 3 ≤ sizeLine; decide), fun u nu => ?_⟩
        have s2 := same_new (Same.refl H1) (.tup [.int lo, oV hi, .int m]) nu
        exact ⟨d, _, _, rfl, rfl, s2 _ _ hd1, (by show 0 < sizeLine; decide), app u nu rfl⟩
      · rw [List.concat_eq_append] at hP app ⊢
        obtain ⟨cs', b2, rfl, hP', hb2⟩ := hP.split
        have ne : !((cs' ++ [b2]).map V.ref).isEmpty = true := by cases cs' <;> rfl
        rw [List.map_append] at hd1 app
        refine ⟨_, rfl, true, .inl ⟨_, SqL.of hd1, by cases cs' <;> rfl⟩, iteT ?_⟩
        refine ⟨_, rfl, 1, rfl, d, _, _, _, rfl, rfl, SqL.of hd1, at_last, b2, _, 2, _, rfl, rfl, hb2, rfl, _, rfl, rfl, ?_⟩
        by_cases em : g.2.2 = m
        · refine ⟨true, congrArg V.bl (decide_eq_true (congrArg V.int em)), iteT ?_⟩
          refine ⟨_, rfl, 1, rfl, d, _, _, _, rfl, rfl, SqL.of hd1, at_last, b2, _, 0, _, rfl, rfl, hb2, rfl, _, rfl, _, rfl, (by show 3 ≤ sizeLine; decide), fun u nu => ?_⟩
          have s2 := same_new (Same.refl H1) (.tup [.int g.1, oV hi, .int m]) nu
          have hd2 := s2 _ _ hd1
          have ez : (cs'.map V.ref ++ [V.ref b2]).set cs'.length (.ref u) = cs'.map V.ref ++ [V.ref u] := by
            simp
          refine ⟨_, rfl, 1, rfl, d, _, _, cs'.length, rfl, rfl, hd2, by rw [List.length_append, List.length_map]; exact ixN_last cs'.length, ?_⟩
          rw [show [b2].map V.ref = [V.ref b2] from rfl, ez]
          refine ⟨cs' ++ [u], _, _, _, rfl, same_but_new (s1.trans s2) hd, by rw [upd_same, List.map_append]; rfl, ?_⟩
          rw [jst_snoc, if_pos em]
          exact (TrsAt.snoc (hP'.same s2) (SqT.of upd_same)).upd hd2
        · refine ⟨false, congrArg V.bl (decide_eq_false fun z => em (V.int.inj z)), iteF ?_⟩
          refine ⟨_, rfl, .inl ⟨rfl, _, SqL.of hd1⟩, _, rfl, _, rfl, _, rfl, (by show 3 ≤ sizeLine; decide), fun u nu => ?_⟩
          have s2 := same_new (Same.refl H1) (.tup [.int lo, oV hi, .int m]) nu
          exact ⟨d, _, _, rfl, rfl, s2 _ _ hd1, small1000 (by simp at lc ⊢; omega), app u nu (by rw [jst_snoc, if_neg em])⟩
    · rintro σ H1 ⟨cs, v2, v3, v4, rfl, s1, hd1, hP⟩
      rw [List.length_map, hA.1, List.take_length] at hP
      exact ⟨_, rfl, k d cs H1 s1 hd hd1 hP⟩
end
end EN

/-! comprehensions with two fors -/
namespace ZK
open PySem L2 PyProof.Rows
theorem lc2_any {J : It} {g : TG} {tt : TT} {wi1 : TI} {g1 : TG} {tt1 : TT} {te : TE} {vs vs1 : List Nat} {σ : L2.St} {H1 : Hp} {D : Addr} {Qd : Hp → Prop} (n : Nat) (Pv : Nat → Hp → Prop) (h0 : Pv 0 (upd H1 D (.lst [])))
    (hgo : ∀ i H, i < n → Pv i H → J.go i H) (hstop : ∀ H, Pv n H → J.stop n H)
    (hs : ∀ i H x H', i < n → Pv i H → J.yld i H x H' → ∀ N : Hp → Prop, (∀ H4, Pv (i + 1) H4 → N H4) → g x (wipe σ vs) H' fun σ2 H2 => wipe σ2 vs = wipe σ vs ∧ tt σ2 H2 fun b H3 =>
      if b = true then wi1 σ2 H3 fun J1 H4 => ∃ W1 : Nat → Nat → Hp → Prop, (∃ m, W1 0 m H4) ∧ ∀ j k H, W1 j k H →
        (J1.stop j H ∧ N H) ∨ (J1.go j H ∧ ∃ Nx1 : Hp → Prop, (∀ H', Nx1 H' → ∃ k', k' < k ∧ W1 (j + 1) k' H') ∧ ∀ x H', J1.yld j H x H' → g1 x (wipe σ2 vs1) H' fun σ3 H5 => wipe σ3 vs1 = wipe σ2 vs1 ∧ tt1 σ3 H5 fun b H6 =>
          if b = true then te σ3 H6 fun y H7 => ∃ acc, H7 D = some (.lst acc) ∧ acc.length < sizeLine ∧ Nx1 (upd H7 D (.lst (acc ++ [y]))) else Nx1 H6)
      else N H3) (hd : ∀ H, Pv n H → Qd H) :
    ∃ W : Nat → Nat → Hp → Prop, (∃ m, W 0 m (upd H1 D (.lst []))) ∧ ∀ i m H, W i m H →
      (J.stop i H ∧ Qd H) ∨ (J.go i H ∧ ∃ Nx : Hp → Prop, (∀ H', Nx H' → ∃ m', m' < m ∧ W (i + 1) m' H') ∧ ∀ x H', J.yld i H x H' → g x (wipe σ vs) H' fun σ2 H2 => wipe σ2 vs = wipe σ vs ∧ tt σ2 H2 fun b H3 =>
        if b = true then wi1 σ2 H3 fun J1 H4 => ∃ W1 : Nat → Nat → Hp → Prop, (∃ m, W1 0 m H4) ∧ ∀ j k H, W1 j k H →
          (J1.stop j H ∧ Nx H) ∨ (J1.go j H ∧ ∃ Nx1 : Hp → Prop, (∀ H', Nx1 H' → ∃ k', k' < k ∧ W1 (j + 1) k' H') ∧ ∀ x H', J1.yld j H x H' → g1 x (wipe σ2 vs1) H' fun σ3 H5 => wipe σ3 vs1 = wipe σ2 vs1 ∧ tt1 σ3 H5 fun b H6 =>
            if b = true then te σ3 H6 fun y H7 => ∃ acc, H7 D = some (.lst acc) ∧ acc.length < sizeLine ∧ Nx1 (upd H7 D (.lst (acc ++ [y]))) else Nx1 H6)
        else Nx H3) := by
  refine ⟨fun i m H => i + m = n ∧ Pv i H, ⟨n, Nat.zero_add _, h0⟩, fun i m H ⟨e, p⟩ => ?_⟩
  by_cases hi : i < n
  · exact .inr ⟨hgo i H hi p, Pv (i + 1), fun H' p' => ⟨m - 1, by omega, by omega, p'⟩, fun x H' y => hs i H x H' hi p y _ fun H4 h => h⟩
  · obtain rfl : i = n := by omega
    exact .inl ⟨hstop H p, hd H p⟩
/-- the inner walk -/
theorem lc2_in {J1 : It} {g1 : TG} {tt1 : TT} {te : TE} {vs1 : List Nat} {σ2 : L2.St} {H4 : Hp} {D : Addr} {N : Hp → Prop} (n : Nat) (Pv : Nat → Hp → Prop) (h0 : Pv 0 H4)
    (hgo : ∀ i H, i < n → Pv i H → J1.go i H) (hstop : ∀ H, Pv n H → J1.stop n H)
    (hs : ∀ i H x H', i < n → Pv i H → J1.yld i H x H' → g1 x (wipe σ2 vs1) H' fun σ3 H5 => wipe σ3 vs1 = wipe σ2 vs1 ∧ tt1 σ3 H5 fun b H6 =>
      if b = true then te σ3 H6 fun y H7 => ∃ acc, H7 D = some (.lst acc) ∧ acc.length < sizeLine ∧ Pv (i + 1) (upd H7 D (.lst (acc ++ [y]))) else Pv (i + 1) H6) (hd : ∀ H, Pv n H → N H) :
    ∃ W1 : Nat → Nat → Hp → Prop, (∃ m, W1 0 m H4) ∧ ∀ j k H, W1 j k H →
      (J1.stop j H ∧ N H) ∨ (J1.go j H ∧ ∃ Nx1 : Hp → Prop, (∀ H', Nx1 H' → ∃ k', k' < k ∧ W1 (j + 1) k' H') ∧ ∀ x H', J1.yld j H x H' → g1 x (wipe σ2 vs1) H' fun σ3 H5 => wipe σ3 vs1 = wipe σ2 vs1 ∧ tt1 σ3 H5 fun b H6 =>
        if b = true then te σ3 H6 fun y H7 => ∃ acc, H7 D = some (.lst acc) ∧ acc.length < sizeLine ∧ Nx1 (upd H7 D (.lst (acc ++ [y]))) else Nx1 H6) := by
  refine ⟨fun i m H => i + m = n ∧ Pv i H, ⟨n, Nat.zero_add _, h0⟩, fun i m H ⟨e, p⟩ => ?_⟩
  by_cases hi : i < n
  · exact .inr ⟨hgo i H hi p, Pv (i + 1), fun H' p' => ⟨m - 1, by omega, by omega, p'⟩, fun x H' y => hs i H x H' hi p y⟩
  · obtain rfl : i = n := by omega
    exact .inl ⟨hstop H p, hd H p⟩
end ZK

namespace EN
open PySem L2 PyProof.Rows
section
variable {P : Program} {w : World} {K : PySem.W.Frag} {mg : Str → Option Value} {base : Heap} {f : Addr} {fd : FuncData}
open SG
theorem slA {H : Hp} {a : Addr} {xs : List V} {lo hi : Option Int} {Q : VK} (h : SqT K H a xs) (q : ∀ p H', Same H H' → SqT K H' p (cutV xs lo hi) → Q (.ref p) H') : rSlA K (.ref a) lo hi H Q :=
  ⟨a, xs, rfl, h, fun full => q a H (Same.refl H) (by rw [ZK.cut_full full.1 full.2]; exact h), fun _ p hp => q p _ (same_new (Same.refl H) _ hp) (SqT.of upd_same)⟩
theorem cut_from (xs : List V) (k : Nat) : cutV xs (some (k : Int)) none = xs.drop k := by
  unfold cutV
  rw [HT.sIx_none, HT.sIx_nat]
  by_cases h : k ≤ xs.length
  · rw [Nat.min_eq_left h]
    exact List.take_of_length_le (by rw [List.length_drop]; exact Nat.le_refl _)
  · rw [Nat.min_eq_right (by omega), List.drop_length, List.drop_of_length_le (by omega), List.take_nil]
/-- from B on each of the row's differences has the sign of the last number -/
def FarR (r : List Int) (B : Int) : Prop := ∀ (k : Nat) (a : Int), k < r.length → r[r.length - 1]? = some a → ∀ n : Int, B ≤ n → sgn (M.val (r.drop k) n) = sgn a
theorem sz_mid {lo B x : Int} (h1 : Sz 204 lo) (h2 : Sz 204 B) (a : lo ≤ x) (b : x ≤ B) : Sz 204 x := by
  unfold Sz at *
  omega
def spRowSigns (K : PySem.W.Frag) : Sp := fun vs H Q _ => ∃ (a : Addr) (r : List Int) (st B : Int), vs = [.ref a, .int st] ∧ SeqI K H a r ∧ r.length ≤ 6 ∧ SzA 2000 r ∧ Sz 204 st ∧ Sz 204 B ∧ st ≤ B ∧ FarR (M.cut r) B ∧
  ∀ (l : Addr) (bs : List Addr) (ts : List Tr) (H' : Hp), Same H H' → H l = none → H' l = some (.lst (bs.map V.ref)) → TrsAt K H' bs ts → Cov (M.val r) st none ts → Alt ts → ts.length ≤ 243 → Q (.ref l) H'
abbrev s_row_signs : Stmt := top 28
abbrev N_row_signs : List Str := ["row", "start", "counts", "parts", "k", "low", "high", "slope", "part"]
theorem sc_row_signs : FnScope N_row_signs ["row", "start"] (defScope s_row_signs) := ⟨rfl, rfl, rfl, by decide +kernel, rfl, by decide +kernel, by decide +kernel⟩

theorem ok_row_signs (F : Fun K "row_signs" "row_signs" s_row_signs f fd) (T : Blt mg) (G_trimmed : Has P w K mg base 1 "trimmed" ["row"] (spTrim K)) (G_sign_of : Has P w K mg base 1 "sign_of" ["value"] spSignOf) (G_slope_signs : Has P w K mg base 7 "slope_signs" ["row", "low", "high", "slope"] (spSlope K)) (G_joined_signs : Has P w K mg base 1 "joined_signs" ["triples"] (spJoinS K)) :
    FnOk P w K mg base CX0 8 f fd ["row", "start"] (spRowSigns K) := by
  refine F.ok sc_row_signs (fun vs H Q E h => ?_) (fun cdv A outer s H vs Q E hr h => ?_)
  · obtain ⟨_, _, _, _, rfl, _⟩ := h
    rfl
  · obtain ⟨a, r, st, B, rfl, hS, hl, hz, hst, hB, sB, far, k⟩ := h
    refine ⟨_, (pss_cons (ps_set (i := 2) sc_row_signs.nd rfl (Or.inr rfl) (pe_has G_trimmed (hr.mono (by decide)) (pa_cons (pv 0) pa_nil)))
    (pss_cons (ps_if (pt_not (pt_truth (pv 2) (by intro _; rfl)))
      (pss_one (ps_ret (pe_lst (pa_cons (pe_tup (pa_cons (pv 1) (pa_cons pe_non (pa_cons pe_int pa_nil)))) pa_nil))))
      pss_nil)
    (pss_cons (ps_set (i := 3) sc_row_signs.nd rfl (Or.inl rfl) (pe_lst (pa_cons (pe_tup (pa_cons (pv 1) (pa_cons pe_non (pa_cons (pe_has G_sign_of (hr.mono (by decide)) (pa_cons (pe_ix (show IxR _ (rIxT K) from ix_tup) (pv 2) (pe_un un_neg pe_int) (fun _ _ => rfl)) pa_nil)) pa_nil)))) pa_nil)))
    (pss_cons (ps_for PassesOwn.never rfl (pi_range3 (by rfl) T.range_ (pa_cons (pe_op op_sub (pe_callB (show CallR _ _ (rLenQ K) from c_len) (by rfl) T.len_ (by decide +kernel) (pa_cons (pv 2) pa_nil)) pe_int) (pa_cons (pe_un un_neg pe_int) (pa_cons (pe_un un_neg pe_int) pa_nil)))) (pg_name (i := 4) sc_row_signs.nd rfl (Or.inr rfl))
      (pss_one (ps_setLc2 (i := 3) (own := [("low", 5), ("high", 6), ("slope", 7), ("part", 8)]) (vs1 := [8]) (g := gTup K 3 (gCons (gName 5) (gCons (gName 6) (gCons (gName 7) gNil)))) (g1 := gName 8) (tt := tYes) (tt1 := tYes) (by rfl) sc_row_signs.nd rfl rfl (sw_true rfl rfl rfl (by decide +kernel)) (pi_list (pv 3)) (blkOk_by (own := [("low", 5), ("high", 6), ("slope", 7), ("part", 8)]) (N := N_row_signs) (sc := defScope s_row_signs) (by decide +kernel)) (by decide) (fun _ _ _ _ _ => (pg_tup rfl (pgs_cons (pg_name (i := 5) sc_row_signs.nd rfl (by first | exact Or.inl rfl | exact Or.inr rfl)) (pgs_cons (pg_name (i := 6) sc_row_signs.nd rfl (by first | exact Or.inl rfl | exact Or.inr rfl)) (pgs_cons (pg_name (i := 7) sc_row_signs.nd rfl (by first | exact Or.inl rfl | exact Or.inr rfl)) pgs_nil))))) (fun _ _ _ _ _ => pts_nil) (fun _ _ _ _ _ => (pi_listB (K := K) rfl (pe_has G_slope_signs (hr.mono (by decide)) (pa_cons (pe_slice (show SlR _ (rSlA K) from sl_tupA) (pv 2) (po_some (pv 4)) po_none) (pa_cons (pv 5) (pa_cons (pv 6) (pa_cons (pv 7) pa_nil))))))) (fun _ _ _ _ _ => (pg_name (i := 8) sc_row_signs.nd rfl (by first | exact Or.inl rfl | exact Or.inr rfl))) (fun _ _ _ _ _ => pts_nil) (fun _ _ _ _ _ => (pv 8)))))
    (pss_one (ps_ret (pe_has G_joined_signs (hr.mono (by decide)) (pa_cons (pv 3) pa_nil)))))))), ?_⟩
    refine ⟨_, rfl, a, r, rfl, hS, by omega, fun c H1 s1 hc => ?_⟩
    have cv : ∀ n, M.val (M.cut r) n = M.val r n := fun n => M.cut_val r n
    have cl : (M.cut r).length ≤ 6 := Nat.le_trans (cut_len r) hl
    have cz : SzA 2000 (M.cut r) := hz.cut
    have lastne : ∀ x, (M.cut r)[(M.cut r).length - 1]? = some x → x ≠ 0 := fun x h => cut_last h
    generalize M.cut r = cs at hc cv cl cz far lastne
    cases hcs : cs with
    | nil =>
      subst hcs
      refine ⟨_, rfl, false, .inr (.inl ⟨_, hc, rfl⟩), iteT ?_⟩
      refine ⟨_, rfl, (by show 3 ≤ sizeLine; decide), fun u nu => ?_⟩
      have s2 := same_new (Same.refl H1) (.tup [.int st, .non, .int 0]) nu
      have hu : SqT K (L2.upd H1 u (.tup [.int st, .non, .int 0])) u [.int st, .non, .int 0] := SqT.of upd_same
      refine ⟨(by show 1 ≤ sizeLine; decide), fun l nl => ?_⟩
      have s3 := same_new (Same.refl _) (.lst [.ref u]) nl
      exact k l [u] [(st, none, 0)] _ (s1.trans (s2.trans s3)) ((s1.trans s2).free nl) upd_same (TrsAt.snoc TrsAt.nil (sqT_same s3 hu)) (cov_one (fun n _ => by rw [← cv]; rfl) ⟨Int.le_refl _, fun h z => nomatch z⟩) trivial (by simp)
    | cons x0 cs0 =>
      have pos : 0 < cs.length := by rw [hcs]; exact Nat.succ_pos _
      refine ⟨_, rfl, true, .inr (.inl ⟨_, hc, by rw [hcs]; rfl⟩), iteF ?_⟩
      clear hcs cs0 x0
      obtain ⟨la, hla⟩ : ∃ la, cs[cs.length - 1]? = some la := ⟨_, List.getElem?_eq_getElem (by omega)⟩
      have lane := lastne la hla
      have fr := fun k hk => far k la hk hla
      have gl : atI (cs.map V.int) (-1) = some (.int la) := by
        obtain ⟨G, x, e⟩ : ∃ G x, cs = G ++ [x] := by
          rcases List.eq_nil_or_concat cs with e | ⟨G, x, e⟩
          · rw [e] at pos; exact absurd pos (Nat.lt_irrefl _)
          · exact ⟨G, x, by rw [e, List.concat_eq_append]⟩
        subst e
        have : la = x := by
          rw [List.length_append, show G.length + [x].length - 1 = G.length by simp, List.getElem?_append_right (Nat.le_refl _), Nat.sub_self] at hla
          cases hla
          rfl
        rw [this, List.map_append]
        exact at_last
      refine ⟨_, rfl, _, rfl, 1, rfl, c, _, _, _, rfl, rfl, hc, gl, la, rfl, (by show 3 ≤ sizeLine; decide), fun u nu => ?_⟩
      have s2 := same_new (Same.refl H1) (.tup [.int st, .non, .int (sgn la)]) nu
      have hu : SqT K (L2.upd H1 u (.tup [.int st, .non, .int (sgn la)])) u [.int st, .non, .int (sgn la)] := SqT.of upd_same
      generalize L2.upd H1 u (.tup [.int st, .non, .int (sgn la)]) = H2 at s2 hu ⊢
      refine ⟨(by show 1 ≤ sizeLine; decide), fun l0 nl0 => ?_⟩
      have s3 := same_new (Same.refl H2) (.lst [.ref u]) nl0
      have hl0 : (L2.upd H2 l0 (.lst [.ref u])) l0 = some (.lst ([u].map V.ref)) := upd_same
      have hu3 := sqT_same s3 hu
      generalize L2.upd H2 l0 (.lst [.ref u]) = H3 at s3 hl0 hu3 ⊢
      have s03 := s1.trans (s2.trans s3)
      have dl : cs.drop (cs.length - 1) = [la] := by
        rw [List.drop_eq_getElem_cons (by omega), List.drop_of_length_le (by omega)]
        have := (List.getElem?_eq_some_iff.mp hla).2
        rw [this]
      have c0 : Cov (M.val (cs.drop (cs.length - 1))) st none [(st, none, sgn la)] := by
        refine cov_one (fun n _ => ?_) ⟨Int.le_refl _, fun h z => nomatch z⟩
        rw [dl, M.val_cons]
        show sgn (la + 0) = sgn la
        rw [Int.add_zero]
      refine ⟨_, rfl, c, _, rfl, .inr (by exact sqT_same (s2.trans s3) hc), _, _, rfl, rfl, 1, rfl, 1, rfl, _, _, _, cs.length - 1, rfl, ?_, ?_⟩
      · have hg := RgC.neg (i := ((cs.map V.int).length : Int) - 2) (j := -1) (by rw [List.length_map]; omega) (by rw [List.length_map]; omega) (by decide) (by decide)
        rw [show (((cs.map V.int).length : Int) - 2 - -1).toNat = cs.length - 1 by rw [List.length_map]; omega] at hg
        exact hg
      refine for_rangeC (lo := ((cs.map V.int).length : Int) - 2) (c := -1) (n := cs.length - 1) (fun i σ H' => ∃ (l : Addr) (bs : List Addr) (ts : List Tr) (v4 : Option V), σ = [some (.ref a), some (.int st), some (.ref c), some (.ref l), v4, none, none, none, none] ∧ Same H H' ∧ SqT K H' c (cs.map V.int) ∧ H' l = some (.lst (bs.map V.ref)) ∧ TrsAt K H' bs ts ∧ Cov (M.val (cs.drop (cs.length - 1 - i))) st none ts ∧ Bn B ts ∧ ts.length ≤ 3 ^ i) ⟨l0, [u], _, none, rfl, s03, sqT_same (s2.trans s3) hc, hl0, TrsAt.snoc TrsAt.nil hu3, c0, fun q hq => ?_, by simp⟩ ?_ ?_
      · simp at hq
        rw [hq]
        exact ⟨sB, fun h z => nomatch z⟩
      · rintro i σ H4 hi ⟨l, bs, ts, v4, rfl, s4, hc4, hl4, hbs, cvt, bnt, lts⟩
        rw [show ((cs.map V.int).length : Int) - 2 + (i : Int) * -1 = ((cs.length - 2 - i : Nat) : Int) by rw [List.length_map]; omega]
        rw [show cs.length - 1 - i = (cs.length - 2 - i) + 1 by omega] at cvt
        rw [show cs.length - 1 - (i + 1) = cs.length - 2 - i by omega]
        have kl : cs.length - 2 - i + 1 < cs.length := by omega
        generalize cs.length - 2 - i = kk at cvt kl ⊢
        have p5 : 3 ^ i ≤ 3 ^ 5 := Nat.pow_le_pow_right (by decide) (by omega)
        have p6 : (3 : Nat) ^ (i + 1) = 3 * 3 ^ i := by rw [Nat.pow_succ, Nat.mul_comm]
        have p7 : (3 : Nat) ^ 5 = 243 := by decide
        have de : cs.drop kk = cs[kk] :: cs.drop (kk + 1) := List.drop_eq_getElem_cons (by omega)
        refine ⟨_, rfl, l, rfl, ⟨_, SqL.of hl4⟩, fun D hD => ?_⟩
        refine ZK.lc2_any ts.length (fun j H' => Same H4 H' ∧ ∃ (es : List Addr) (us : List Tr), H' D = some (.lst (es.map V.ref)) ∧ TrsAt K H' es us ∧ (j = 0 → us = []) ∧ (∀ t, 0 < j → ts[j - 1]? = some t → Cov (M.val (cs.drop kk)) st t.2.1 us) ∧ Bn B us ∧ us.length ≤ 3 * j) ⟨same_new (Same.refl _) _ hD, [], [], upd_same, TrsAt.nil, fun _ => rfl, fun t h => absurd h (Nat.lt_irrefl _), (fun t ht => by cases ht), Nat.zero_le _⟩ ?_ ?_ ?_ ?_
        · rintro j H' hj ⟨s', _⟩
          exact ⟨_, _, s'.seq (SqL.of hl4), List.getElem?_eq_getElem (by rw [List.length_map, hbs.1]; exact hj)⟩
        · rintro H' ⟨s', _⟩
          exact ⟨_, s'.seq (SqL.of hl4), by rw [List.length_map, hbs.1]; exact Nat.le_refl _⟩
        · rintro j H5' x H5 hj ⟨s5, es, us, hD5, hes, z0, cvu, bnu, lu⟩ ⟨rfl, hx⟩ N hN
          have hxx := hx _ (s5.seq (SqL.of hl4))
          obtain ⟨b, t, eb, et, hb⟩ := hbs.get hj
          rw [List.getElem?_map, eb] at hxx
          cases hxx
          have tm := List.mem_of_getElem? et
          obtain ⟨m1, m2, m3, m4, _⟩ := cov_mem cvt t tm
          have bt := bnt t tm
          have hb5 := sqT_same s5 hb
          have hc5 := sqT_same s5 hc4
          refine ⟨b, _, rfl, hb5, rfl, _, _, rfl, _, _, rfl, _, _, rfl, rfl, rfl, yesT' (iteT ?_)⟩
          refine ⟨_, rfl, _, rfl, _, rfl, ?_⟩
          unfold tNoPart
          refine slA (lo := some (kk : Int)) (hi := none) hc5 fun p H6 s6 hp6 => ?_
          rw [cut_from, ← List.map_drop] at hp6
          have stp : ∀ n, InI t.1 t.2.1 n → sgn (M.val (cs.drop kk) (n + 1) - M.val (cs.drop kk) n) = t.2.2 := fun n hn => by
            rw [de, val_next, show ∀ x y : Int, x + y - x = y from fun x y => by omega]
            exact m3 n hn
          have farT : t.2.1 = none → t.2.2 ≠ 0 ∧ ∀ n : Int, B ≤ n → 0 < M.val (cs.drop kk) n * t.2.2 := fun hn => by
            have h1 := m3 (max t.1 B) ⟨by omega, fun h z => by rw [hn] at z; cases z⟩
            rw [fr (kk + 1) kl _ (by omega)] at h1
            have h2 : t.2.2 = 1 ∨ t.2.2 = -1 := by
              rcases sgn_cases la with ⟨x, y⟩ | ⟨x, y⟩ | ⟨x, y⟩ <;> omega
            refine ⟨by omega, fun n hB => sgn_one ?_ h2⟩
            rw [fr kk (by omega) n hB, h1]
          refine ⟨_, rfl, _, rfl, _, rfl, p, cs.drop kk, t.1, B, t.2.2, t.2.1, rfl, .inr hp6, by rw [List.length_drop]; omega, fun x hx => cz x (List.mem_of_mem_drop hx), sz_mid hst hB m1 bt.1, hB, fun h z => sz_mid hst hB (by have := m2.2 h z; omega) (bt.2 h z), bt.1, fun h z => ⟨m2.2 h z, bt.2 h z⟩, stp, farT, fun l2 bs2 S H7 s7 nl2 hl7 hbs7 cv7 bn7 len7 => ⟨l2, rfl, ⟨_, SqL.of hl7⟩, ?_⟩⟩
          have s57 := s6.trans s7
          refine ZK.lc2_in S.length (fun q H' => (H' l2 = some (.lst (bs2.map V.ref)) ∧ TrsAt K H' bs2 S) ∧ Same H4 H' ∧ ∃ es2 : List Addr, H' D = some (.lst (es2.map V.ref)) ∧ TrsAt K H' es2 (us ++ S.take q)) ⟨⟨hl7, hbs7⟩, s5.trans s57, es, s57 _ _ hD5, by rw [List.take_zero, List.append_nil]; exact hes.same s57⟩ ?_ ?_ ?_ ?_
          · rintro q H' hq ⟨⟨h', _⟩, _⟩
            exact ⟨_, _, SqL.of h', List.getElem?_eq_getElem (by rw [List.length_map, hbs7.1]; exact hq)⟩
          · rintro H' ⟨⟨h', _⟩, _⟩
            exact ⟨_, SqL.of h', by rw [List.length_map, hbs7.1]; exact Nat.le_refl _⟩
          · rintro q H8' y H8 hq ⟨⟨hl8, hbs8⟩, s48, es2, hD8, hes2⟩ ⟨rfl, hy⟩
            have hyy := hy _ (SqL.of hl8)
            obtain ⟨b2, t2, eb2, et2, hb2⟩ := hbs8.get hq
            rw [List.getElem?_map, eb2] at hyy
            cases hyy
            refine ⟨rfl, yesT' (iteT ?_)⟩
            have le2 : es2.length ≤ 900 := by
              rw [hes2.1, List.length_append, List.length_take]
              omega
            have eS : S.take (q + 1) = S.take q ++ [t2] := by
              rw [List.take_succ, et2]
              rfl
            have nDl : l2 ≠ D := fun z => by
              have h1 := s6 _ _ hD5
              rw [← z, nl2] at h1
              cases h1
            refine ⟨_, rfl, es2.map V.ref, hD8, small1000 (by rw [List.length_map]; omega), ⟨by rw [upd_ne nDl]; exact hl8, hbs8.upd hD8⟩, same_updN hD s48, es2 ++ [b2], by rw [upd_same, List.map_append]; rfl, ?_⟩
            rw [eS, ← List.append_assoc]
            exact (TrsAt.snoc hes2 hb2).upd hD8
          · rintro H8 ⟨_, s48, es2, hD8, hes2⟩
            rw [List.take_length] at hes2
            refine hN _ ⟨s48, es2, us ++ S, hD8, hes2, fun z => absurd z (Nat.succ_ne_zero j), fun t' _ ht' => ?_, bnu.append bn7, by rw [List.length_append]; omega⟩
            rw [Nat.add_sub_cancel, et] at ht'
            cases ht'
            cases j with
            | zero =>
              rw [z0 rfl, List.nil_append]
              rw [cov_fst cvt et] at cv7
              exact cv7
            | succ j =>
              obtain ⟨pt, ept⟩ : ∃ pt, ts[j]? = some pt := ⟨_, List.getElem?_eq_getElem (by omega)⟩
              have h1 := cvu pt (Nat.succ_pos j) ept
              have h2 := cov_two cvt j pt t ept et
              rw [h2] at h1
              exact cov_append (m := t.1 - 1) (by rw [show t.1 - 1 + 1 = t.1 by omega]; exact cv7) h1
        · rintro H' ⟨s', es, us, hD', hes, _, cvu, bnu, lu⟩
          have tp : 0 < ts.length := List.length_pos_iff.mpr (cov_ne cvt)
          obtain ⟨tl, etl⟩ : ∃ tl, ts[ts.length - 1]? = some tl := ⟨_, List.getElem?_eq_getElem (by omega)⟩
          have h1 := cvu tl tp etl
          rw [cov_lst cvt tl etl] at h1
          exact ⟨D, es, us, _, rfl, s4.trans s', sqT_same s' hc4, hD', hes, h1, bnu, by rw [p6]; omega⟩
      · rintro σ H4 ⟨l, bs, ts, v4, rfl, s4, hc4, hl4, hbs, cvt, bnt, lts⟩
        rw [Nat.sub_self, List.drop_zero] at cvt
        have p5 : 3 ^ (cs.length - 1) ≤ 3 ^ 5 := Nat.pow_le_pow_right (by decide) (by omega)
        have p7 : (3 : Nat) ^ 5 = 243 := by decide
        have ev : M.val cs = M.val r := funext cv
        rw [ev] at cvt
        refine ⟨_, rfl, l, bs, ts, rfl, SqL.of hl4, hbs, by omega, fun l2 cs2 H5 s5 nl5 hl5 hcs => ?_⟩
        have jc := join_cov cvt
        have fl := fold_len ts []
        exact k l2 cs2 _ H5 (s4.trans s5) (s4.free nl5) hl5 hcs jc.1 jc.2 (by simp at fl; omega)
end
end EN

namespace EN
open PySem L2 PyProof.Rows
section
variable {P : Program} {w : World} {K : PySem.W.Frag} {mg : Str → Option Value} {base : Heap} {f : Addr} {fd : FuncData}
/-- places within a text -/
def lcScope : Expr → Scope
  | .ListComp _ _ sc _ => sc
  | _ => { kind := .function, names := [], isGenerator := false, isCoroutine := false }
def retE : Stmt → Expr
  | .Return (some e) _ => e
  | _ => .Constant .none 0 ⟨0, 0, 0, 0⟩
/-- a comprehension's scope within a def's -/
def relab (sc d : Scope) : Scope := { sc with names := sc.names.map fun (n, k) => if (k == .free && d.kind == .function && d.names.lookup n == some .cell) then (n, .cell) else (n, k) }
abbrev s_row_through : Stmt := top 15
abbrev N_row_through : List Str := ["values", "found", "rest", "k"]
theorem sc_row_through : FnScope N_row_through ["values"] (defScope s_row_through) := ⟨rfl, rfl, rfl, by decide +kernel, rfl, by decide +kernel, by decide +kernel⟩

theorem ok_row_through (F : Fun K "row_through" "row_through" s_row_through f fd) (T : Blt mg) : FnOk P w K mg base CX0 1 f fd ["values"] (spRowThr K) := by
  refine F.ok sc_row_through (fun vs H Q E h => ?_) (fun cdv A outer s H vs Q E hr h => ?_)
  · obtain ⟨a, r, rfl, _⟩ := h
    rfl
  · obtain ⟨a, r, rfl, hS, hl, q⟩ := h
    refine ⟨_, (pss_cons (ps_set (i := 1) sc_row_through.nd rfl (Or.inl rfl) (pe_lst pa_nil))
    (pss_cons (ps_set (i := 2) sc_row_through.nd rfl (Or.inr rfl) (pe_callTy (show CallR _ _ (rListQ K) from c_list) (by rfl) T.list_ (by decide +kernel) (pa_cons (pv 0) pa_nil)))
    (pss_cons (ps_while PassesOwn.never (pt_truth (pv 2) (by intro _; rfl))
      (pss_cons (ps_expr (pe_bm PySem.F.plainAttrs_list PySem.F.slot_list_append PySem.F.type_list_append mt_append (pv 1) (pa_cons (pe_ix (show IxR _ (rIxL K) from ix_list) (pv 2) pe_int (fun _ _ => rfl)) pa_nil)))
      (pss_one (ps_set (i := 2) sc_row_through.nd rfl (Or.inr rfl) (pe_lc (own := [("k", 3)]) (g := gName 3) (tt := tYes) (by rfl) sc_row_through.nd (pi_range1 (by rfl) T.range_ (pa_cons (pe_op op_sub (pe_callB (show CallR _ _ (rLenQ K) from c_len) (by rfl) T.len_ (by decide +kernel) (pa_cons (pv 2) pa_nil)) pe_int) pa_nil)) (blkOk_by (own := [("k", 3)]) (N := N_row_through) (sc := defScope s_row_through) (by decide +kernel)) (fun _ _ _ _ _ => (pg_name (i := 3) sc_row_through.nd rfl (by first | exact Or.inl rfl | exact Or.inr rfl))) (fun _ _ _ _ _ => pts_nil) (fun _ _ _ _ _ => (pe_op op_sub (pe_ix (show IxR _ (rIxL K) from ix_list) (pv 2) (pe_op op_add (pv 3) pe_int) (fun _ _ => rfl)) (pe_ix (show IxR _ (rIxL K) from ix_list) (pv 2) (pv 3) (fun _ _ => rfl)))))))))
    (pss_one (ps_ret (pv 1)))))), ?_⟩
    refine ⟨(by show 0 ≤ sizeLine; decide), fun d hd => ?_⟩
    have s0 := same_new (Same.refl H) (.lst []) hd
    refine ⟨_, rfl, a, _, rfl, hS.elim (fun h => .inl (s0.seq h)) (fun h => .inr (sqT_same s0 h)), fun l hll => ?_⟩
    have ndl : d ≠ l := ne_of_none upd_same hll
    let W : Nat → L2.St → Hp → Prop := fun n σ H' => ∃ (l' : Addr) (cur fnd : List Int), σ = [some (.ref a), some (.ref d), some (.ref l'), none] ∧ n = cur.length ∧ H' l' = some (.lst (cur.map V.int)) ∧ H' d = some (.lst (fnd.map V.int)) ∧ l' ≠ d ∧
      fnd ++ M.thr cur = M.thr r ∧ Same H H' ∧ cur.length + fnd.length ≤ 1000
    refine ⟨W, ⟨_, l, r, [], rfl, rfl, upd_same, by rw [upd_ne ndl, upd_same]; rfl, ndl.symm, rfl, same_new s0 _ hll, by simpa using hl⟩, ?_⟩
    rintro n σ H1 ⟨l', cur, fnd, rfl, rfl, h1, h2, ne, hthr, sm, hlen⟩
    refine ⟨_, rfl, _, .inl ⟨_, SqL.of h1, rfl⟩, ?_⟩
    cases cur with
    | nil =>
      refine iteF ⟨_, rfl, ?_⟩
      rw [M.thr_nil, List.append_nil] at hthr
      rw [hthr] at h2
      exact q d H1 sm hd h2
    | cons x xs =>
      refine iteT ?_
      refine ⟨fun σ' H'' => ∃ n', n' < (x :: xs).length ∧ W n' σ' H'', fun σ' H' h => h, ?_⟩
      refine ⟨_, rfl, .inl ⟨rfl, _, .inl (.inl h2)⟩, _, rfl, l', _, 0, .int x, rfl, rfl, SqL.of h1, at_of (j := 0) rfl rfl, d, _, _, rfl, rfl, h2, ?_, ?_⟩
      · rw [List.length_map]
        exact small1000 (by omega)
      have h3 : (upd H1 d (.lst (fnd.map V.int ++ [.int x]))) l' = some (.lst ((x :: xs).map V.int)) := by rw [upd_ne ne]; exact h1
      have h4 : (upd H1 d (.lst (fnd.map V.int ++ [.int x]))) d = some (.lst ((fnd ++ [x]).map V.int)) := by rw [upd_same, List.map_append]; rfl
      have sm4 : Same H (upd H1 d (.lst (fnd.map V.int ++ [.int x]))) := same_but_new sm hd
      generalize upd H1 d (.lst (fnd.map V.int ++ [.int x])) = H2 at h3 h4 sm4 ⊢
      refine ⟨_, rfl, l', _, rfl, .inl (SqL.of h3), _, _, rfl, rfl, (xs.length : Int), ?_, by omega, ?_, fun D hD => ?_⟩
      · rw [List.length_map, List.length_cons]
        exact congrArg (fun z => [V.int z]) (show ((xs.length + 1 : Nat) : Int) - 1 = (xs.length : Int) by omega)
      · simp only [List.length_cons] at hlen
        omega
      rw [show (xs.length : Int).toNat = xs.length by omega]
      refine ZK.lc_growR xs.length (small1000 (by simp only [List.length_cons] at hlen; omega)) (fun _ H' => Same H2 H') (fun i y => y = .int ((x :: xs).getD (i + 1) 0 - (x :: xs).getD i 0)) (same_new (Same.refl _) _ hD) ?_ ?_
      · intro i H3 acc hi s3 hacc hal hR Qn hq
        have g0 := (get_int (r := x :: xs) (e := i) (by rw [List.length_cons]; omega)).1
        have g1 := (get_int (r := x :: xs) (e := i + 1) (by rw [List.length_cons]; omega)).1
        refine ⟨rfl, _, rfl, _, rfl, _, _, rfl, rfl, l', _, _, _, rfl, rfl, SqL.of (s3 _ _ h3), at_of (by omega) g1, _, rfl, _, rfl, l', _, _, _, rfl, rfl, SqL.of (s3 _ _ h3), at_of (by omega) g0, _, _, rfl, rfl, ?_⟩
        exact hq _ _ rfl hacc (same_but_new s3 hD)
      · intro H3 acc s3 hacc hal hR
        have e := ZK.eq_map hal hR
        have hdiff := M.diffs_eq (x :: xs)
        rw [show (x :: xs).length - 1 = xs.length by simp] at hdiff
        refine ⟨xs.length, by simp, D, M.diffs (x :: xs), fnd ++ [x], rfl, by rw [M.diffs_len]; simp, ?_, s3 _ _ h4, (ne_of_none h4 hD).symm, ?_, sm4.trans s3, ?_⟩
        · rw [hacc, e, hdiff, List.map_map]
          rfl
        · rw [← hthr, M.thr_cons, List.append_assoc]
          rfl
        · rw [M.diffs_len, List.length_append]
          simp only [List.length_cons, List.length_nil] at hlen ⊢
          omega
abbrev s_row_ahead : Stmt := top 17
abbrev N_row_ahead : List Str := ["row", "k", "worths", "j", "i"]
theorem sc_row_ahead : FnScope N_row_ahead ["row", "k"] (defScope s_row_ahead) := ⟨rfl, rfl, rfl, by decide +kernel, rfl, by decide +kernel, by decide +kernel⟩

theorem drop_get {r : List Int} {j i : Nat} : (r.drop j).getD i 0 = r.getD (j + i) 0 := by
  rw [List.getD_eq_getElem?_getD, List.getD_eq_getElem?_getD, List.getElem?_drop]
theorem ok_row_ahead (F : Fun K "row_ahead" "row_ahead" s_row_ahead f fd) (T : Blt mg) (G_chooses : Has P w K mg base 1 "chooses" ["n", "many"] spChs) : FnOk P w K mg base CX0 2 f fd ["row", "k"] (spRowAh K) := by
  refine F.ok sc_row_ahead (fun vs H Q E h => ?_) (fun cdv A outer s H vs Q E hr h => ?_)
  · obtain ⟨a, r, n, b, c, rfl, _⟩ := h
    rfl
  · obtain ⟨a, r, n, b, c, rfl, hS, hl, hx, hc, hb, hb2, hn, k⟩ := h
    refine ⟨_, (pss_cons (ps_set (i := 2) sc_row_ahead.nd rfl (Or.inr rfl) (pe_has G_chooses (hr.mono (by decide)) (pa_cons (pv 1) (pa_cons (pe_callB (show CallR _ _ (rLenQ K) from c_len) (by rfl) T.len_ (by decide +kernel) (pa_cons (pv 0) pa_nil)) pa_nil))))
    (pss_one (ps_ret (pe_lc (own := [("j", 3)]) (g := gName 3) (tt := tYes) (by rfl) sc_row_ahead.nd (pi_range1 (by rfl) T.range_ (pa_cons (pe_callB (show CallR _ _ (rLenQ K) from c_len) (by rfl) T.len_ (by decide +kernel) (pa_cons (pv 0) pa_nil)) pa_nil)) (blkOk_by (own := [("j", 3)]) (N := N_row_ahead) (sc := defScope s_row_ahead) (by decide +kernel)) (fun _ _ _ _ _ => (pg_name (i := 3) sc_row_ahead.nd rfl (by first | exact Or.inl rfl | exact Or.inr rfl))) (fun _ _ _ _ _ => pts_nil) (fun _ _ _ _ _ => (pe_callB (show CallR _ _ (rSum K) from cr_sum rfl) (by rfl) T.sum_ (by decide +kernel) (pa_cons (pe_lc (own := [("i", 4)]) (g := gName 4) (tt := tYes) (by rfl) sc_row_ahead.nd (pi_range2 (by rfl) T.range_ (pa_cons (pv 3) (pa_cons (pe_callB (show CallR _ _ (rLenQ K) from c_len) (by rfl) T.len_ (by decide +kernel) (pa_cons (pv 0) pa_nil)) pa_nil))) (blkOk_by (own := [("i", 4)]) (N := N_row_ahead) (sc := relab (lcScope (retE ((defBody s_row_ahead).getD 1 (.Pass ⟨0, 0, 0, 0⟩)))) (defScope s_row_ahead)) (by decide +kernel)) (fun _ _ _ _ _ => (pg_name (i := 4) sc_row_ahead.nd rfl (by first | exact Or.inl rfl | exact Or.inr rfl))) (fun _ _ _ _ _ => pts_nil) (fun _ _ _ _ _ => (pe_op op_mulW (pe_ix (show IxR _ (rIx K) from ix_seq) (pv 0) (pv 4) (fun _ _ => rfl)) (pe_ix (show IxR _ (rIxL K) from ix_list) (pv 2) (pe_op op_sub (pv 4) (pv 3)) (fun _ _ => rfl))))) pa_nil))))))), ?_⟩
    refine ⟨_, rfl, _, rfl, a, _, rfl, hS, n, r.length, b, by rw [List.length_map]; rfl, by omega, hb, hb2, hn, fun l H1 s1 hl1 h1 => ?_⟩
    have hS1 := SeqI.same s1 hS
    refine ⟨_, rfl, a, _, rfl, hS1, (r.length : Int), by rw [List.length_map], by omega, by omega, fun D hD => ?_⟩
    rw [show (r.length : Int).toNat = r.length by omega]
    refine ZK.lc_growR r.length (small1000 (by omega)) (fun _ H' => Same H1 H') (fun j y => y = .int (M.val (r.drop j) n)) (same_new (Same.refl _) _ hD) ?_ ?_
    · intro j H2 acc hj s2 hacc hal hR Qn hq
      refine ⟨rfl, _, rfl, _, rfl, a, _, rfl, SeqI.same s2 hS1, (0 : Int) + (j : Int), (r.length : Int), by rw [List.length_map], ⟨by omega, by omega, by omega, by omega⟩, fun E2 hE => ?_⟩
      rw [show ((r.length : Int) - (0 + (j : Int))).toNat = r.length - j by omega]
      have nDE : D ≠ E2 := ne_of_none hacc hE
      refine ZK.lc_growR (r.length - j) (small1000 (by omega)) (fun _ H' => Same H2 H') (fun i y => y = .int ((r.drop j).getD i 0 * M.C n i)) (same_new (Same.refl _) _ hE) ?_ ?_
      · intro i H3 acc3 hi s3 hacc3 hal3 hR3 Qn3 hq3
        have g0 := (get_int (r := r) (e := j + i) (by omega)).1
        have hl3 := s3 _ _ (s2 _ _ h1)
        refine ⟨rfl, _, rfl, _, rfl, ixS (SeqI.same s3 (SeqI.same s2 hS1)) (at_of (by omega) g0) ?_⟩
        refine ⟨_, rfl, _, rfl, _, rfl, _, _, rfl, rfl, l, _, _, _, rfl, rfl, SqL.of hl3, at_of (by omega) (get_C (n := n) (i := i) (by omega)), _, _, rfl, rfl, (hx.get (j + i)).mulOk (Cb16 hb hn (by omega)) (by omega), ?_⟩
        refine hq3 _ _ (by rw [drop_get]) hacc3 (same_but_new s3 hE)
      · intro H3 acc3 s3 hacc3 hal3 hR3
        have e := ZK.eq_map hal3 hR3
        refine ⟨E2, (List.range (r.drop j).length).map (fun k => (r.drop j).getD k 0 * M.C n k), rfl, SqL.of ?_, ?_⟩
        · rw [hacc3, e, List.map_map, List.length_drop]
          rfl
        · rw [← M.val_sum]
          exact hq _ _ rfl (s3 _ _ hacc) (same_but_new (s2.trans s3) hD)
    · intro H2 acc s2 hacc hal hR
      have e := ZK.eq_map hal hR
      refine k D H2 (s1.trans s2) (s1.free hD) ?_
      rw [hacc, e, ← M.ah_eq, List.map_map]
      rfl
abbrev s_trimmed : Stmt := top 18
abbrev N_trimmed : List Str := ["row", "end"]
theorem sc_trimmed : FnScope N_trimmed ["row"] (defScope s_trimmed) := ⟨rfl, rfl, rfl, by decide +kernel, rfl, by decide +kernel, by decide +kernel⟩

theorem cutN_eq_len {r : List Int} (h : M.cutN r r.length = r.length) : M.cut r = r := by
  unfold M.cut
  rw [h, List.take_length]
theorem cut_take {r : List Int} (n : Nat) (h : n ≤ r.length) : cutV (r.map V.int) none (some (n : Int)) = (r.take n).map V.int := by
  unfold cutV
  rw [show HT.sIx (r.map V.int).length 0 none = 0 from rfl, HT.sIx_nat, List.drop_zero, Nat.sub_zero, List.length_map, Nat.min_eq_left h, List.map_take]
/-- tuple(a list or tuple) -/
theorem tupQS {H : Hp} {a : Addr} {xs : List V} {Q : VK} : ∀ {k : ZK.Kd}, ZK.SqK K H a xs k → (∀ t H', Same H H' → SqT K H' t xs → Q (.ref t) H') → rTupQ K [.ref a] H Q
  | .l, h, q => ⟨a, xs, rfl, .inl ⟨h, fun t ht => q t _ (same_new (Same.refl _) _ ht) (SqT.of upd_same)⟩⟩
  | .t, h, q => ⟨a, xs, rfl, .inr ⟨h, q a H (Same.refl H) h⟩⟩
theorem ok_trimmed (F : Fun K "trimmed" "trimmed" s_trimmed f fd) (T : Blt mg) : FnOk P w K mg base CX0 1 f fd ["row"] (spTrim K) := by
  refine F.ok sc_trimmed (fun vs H Q E h => ?_) (fun cdv A outer s H vs Q E hr h => ?_)
  · obtain ⟨a, r, rfl, _⟩ := h
    rfl
  · obtain ⟨a, r, rfl, hS, hl, q⟩ := h
    refine ⟨_, (pss_cons (ps_set (i := 1) sc_trimmed.nd rfl (Or.inl rfl) (pe_callB (show CallR _ _ (rLenQ K) from c_len) (by rfl) T.len_ (by decide +kernel) (pa_cons (pv 0) pa_nil)))
    (pss_cons (ps_while PassesOwn.never (PW.pt (pw_and (pt_cmpR op_gt (pv 1) pe_int (nomark _)) (pw_and1 (pt_cmpR op_eq (pe_ix (show IxR _ (rIx K) from ix_seq) (pv 0) (pe_op op_sub (pv 1) pe_int) (fun _ _ => rfl)) pe_int (nomark _)))))
      (pss_one (ps_set (i := 1) sc_trimmed.nd rfl (Or.inl rfl) (pe_op op_sub (pv 1) pe_int))))
    (pss_one (ps_ret (pe_callTy (show CallR _ _ (rTupQ K) from c_tuple) (by rfl) T.tuple_ (by decide +kernel) (pa_cons (pe_slice (show SlR _ (ZK.rSlS K) from ZK.sl_any) (pv 0) po_none (po_some (pv 1))) pa_nil)))))), ?_⟩
    refine ⟨_, rfl, a, _, rfl, hS, ?_⟩
    rw [List.length_map]
    let W : Nat → L2.St → Hp → Prop := fun n σ H' => H' = H ∧ n ≤ r.length ∧ σ = [some (.ref a), some (.int (n : Int))] ∧ M.cutN r n = M.cutN r r.length
    refine ⟨W, ⟨_, rfl, Nat.le_refl _, rfl, rfl⟩, ?_⟩
    rintro n σ H' ⟨rfl, hn, rfl, hc⟩
    have out : M.cutN r r.length = n → tRet (tCB (rTupQ K) (tCons (tSl (ZK.rSlS K) (tVar 0) tNoPart (tPart (tVar 1))) tNil)) { nx := fun _ H' => Q .non H', rt := Q } [some (.ref a), some (.int (n : Int))] H' := fun e => by
      obtain ⟨ka, hk⟩ := ZK.kindOf hS
      refine ⟨_, rfl, _, rfl, _, rfl, ZK.slS hk fun p H1 s1 hp => tupQS hp fun t H2 s2 ht => ?_⟩
      refine q t H2 (s1.trans s2) ?_
      rw [cut_take n hn] at ht
      unfold M.cut
      rw [e]
      exact ht
    refine ⟨_, rfl, _, _, rfl, rfl, _, rfl, ?_⟩
    refine ite2 (fun h1 => ?_) (fun h1 => ?_)
    · have h2 : 0 < (n : Int) := of_decide_eq_true h1
      obtain ⟨e, rfl⟩ : ∃ e, n = e + 1 := ⟨n - 1, by omega⟩
      obtain ⟨g1, g2⟩ := get_int (r := r) (e := e) (by omega)
      refine ⟨_, rfl, _, rfl, _, _, rfl, rfl, ixS hS (at_of (by omega) g1) ⟨rfl, _, rfl, ?_⟩⟩
      refine ite2 (fun h3 => ?_) (fun h3 => ?_)
      · have h4 : r.getD e 0 = 0 := V.int.inj (of_decide_eq_true h3)
        refine ⟨fun σ' H'' => ∃ n', n' < e + 1 ∧ W n' σ' H'', fun σ' H' h => h, ?_⟩
        refine ⟨_, rfl, _, _, rfl, rfl, e, Nat.lt_succ_self e, rfl, by omega, ?_, ?_⟩
        · show [some (V.ref a), some (V.int (((e + 1 : Nat) : Int) - 1))] = _
          rw [show ((e + 1 : Nat) : Int) - 1 = (e : Int) by omega]
        · rw [← hc, M.cutN_zero r e (by rw [g2, h4])]
      · refine out ?_
        rw [← hc]
        refine M.cutN_stop r e fun z => h3 (decide_eq_true ?_)
        rw [g2] at z
        rw [Option.some.inj z]
    · obtain rfl : n = 0 := by
        have : ¬ (0 < (n : Int)) := fun z => h1 (decide_eq_true z)
        omega
      exact out hc.symm
end
end EN

/-! calls through a class: its staticmethods, the class held by a local name, math.factorial -/
namespace EN
open PySem L2 PyProof.Rows
/-- C.m is a staticmethod: its record at p, its def at g -/
structure SMet (K : PySem.W.Frag) (C : Addr) (mc : Value) (m : Str) (p g : Addr) : Prop where
  at_ : PySem.W.findCls K (.ref C) mc m = some (.get (.builtin "staticmethod.__get__") (.ref p) .none (.ref C))
  rc : ∃ rest, PySem.W.recIn K p "staticmethod" = some (.ref g :: rest)
  kp : PySem.W.keepIn K (.ref g) = true
def tSMeth (C : Addr) (sp : Sp) (dvs : List V) (E : XK) (ta : TE) (t : TA) : TE := fun σ H Q => ta σ H fun x H1 => x = .ref C ∧ t σ H1 fun vs H2 => sp (vs ++ dvs) H2 Q E
section
variable {X : Cx} {CX : CXT} {k : Nat} {C p g f : Addr} {mc : Value} {sp : Sp} {E : XK} {o e : Expr} {es : List Expr} {m x : Str} {pos apos np : Pos} {ta : TE} {t : TA} {pl : Sem Bool} {fd : FuncData} {ps : List Str} {dvs : List V} {ds : List Value}
theorem pe_smeth (he : PE X o ta) (r : ClX.CRead X.K C mc) (c : SMet X.K C mc m p g) (F : FnOk X.prog X.w X.K X.mg X.base CX k g fd ps sp) (hr : Room k X.A) (hb : Binds X.K fd ps ds) (hd : Vals dvs ds) (hx : Passes CX X E) (ha : PA X (e :: es) t)
    (hst : starEach (e :: es) X.env = (false, eval e X.env) :: starEach es X.env := by rfl) (hpl : (backTo pos (starEach es X.env)).any (·.1) = false := by rfl)
    (ht : eval (.Call (.Attribute o m apos) (e :: es) [] pos) X.env = (do
      let ov ← eval o X.env
      standAt apos.atName
      let (f, first) ← holding [ov] (getMethod ov m pl)
      callWith pos f first (backTo pos (starEach (e :: es) X.env)) (backToKw pos (keywordEach [] X.env))) := by rfl) :
    PE X (.Call (.Attribute o m apos) (e :: es) [] pos) (tSMeth C sp dvs E ta t) := by
  refine ⟨fun pins s σ H Q I h => PySem.W.methodCall_KW (pl := pl) (thn (he.run pins s σ H _ I h) fun u s1 ⟨y, H1, I1, ry, ey, q⟩ => ?_) ht⟩
  subst ey
  obtain rfl : u = Value.ref C := ry
  obtain ⟨rest, hp⟩ := c.rc
  refine PySem.W.method_cls I1.kIn r.ga (PySem.W.cls_bind I1.kIn r.rd c.at_ (wpAny_call (PySem.W.sm_get (s := { s1 with toks := s1.toks + 1 }) I1.kIn hp (PySem.W.handed_on rfl ?_))))
  have I2 := I1.tok (s1.toks + 1)
  refine PySem.W.callWith_K (h₀ := X.base) I2.ok.mod.kin c.kp (thn (ha.run pos pins _ σ H1 _ I2 q) fun us s2 ⟨vs, H2, I3, rv, q2⟩ => ⟨I3.kIn, ?_⟩) hst hpl
  exact run_fn F hr hb hd hx I3 rv q2
/-- x(e, ..), the local name x holds the class at C -/
def tMakeL (i : Nat) (C : Addr) (sp : Sp) (dvs : List V) (E : XK) (t : TA) : TE := fun σ H Q => σ[i]? = some (some (.ref C)) ∧ tMake C sp dvs E t σ H Q
theorem pe_makeL {i : Nat} (M : Mk X.K C f) (F : FnOk X.prog X.w X.K X.mg X.base CX k f fd ps sp) (hr : Room (k + 1) X.A) (hN : X.N[i]? = some x) (hv : Vis X.env.scope x) (hb : Binds X.K fd ps ds) (hd : Vals dvs ds) (hx : Passes CX X E) (ha : PA X (e :: es) t)
    (hdb : (x == ("__debug__" : Str)) = false := by decide) (hcd : (x == ("__classdict__" : Str)) = false := by decide)
    (he : starEach (e :: es) X.env = (false, eval e X.env) :: starEach es X.env := by rfl) (hpl : (backTo pos (starEach es X.env)).any (·.1) = false := by rfl) : PE X (.Call (.Name x np) (e :: es) [] pos) (tMakeL i C sp dvs E t) := by
  refine ⟨fun pins s σ H Q I ⟨hs, h⟩ => wpAny_Call_Name_kw (thn ((pe_var (pos := np) hN hv hdb hcd).run pins s σ H (fun v H1 => v = .ref C ∧ H1 = H) I ⟨.ref C, hs, rfl, rfl⟩) fun u s1 ⟨v, H1, I1, r1, q1⟩ => ?_)⟩
  obtain ⟨rfl, rfl⟩ := q1
  cases r1
  refine PySem.W.callWith_K (h₀ := X.base) I.ok.mod.kin M.kp (thn (ha.run pos pins s1 σ _ _ I1 h) fun us s2 ⟨vs, H2, I2, rv, q⟩ => ⟨I2.kIn, ?_⟩) he hpl
  exact run_make M F hr hb hd hx I2 rv q
def rFactorial : List V → Hp → VK → Prop := fun vs H Q => ∃ n : Nat, vs = [.int (n : Int)] ∧ n ≤ 1000 ∧ Q (.int (M.fac n)) H
theorem facN : ∀ n : Nat, ((Builtin.Math.factorialNat n : Nat) : Int) = M.fac n
  | 0 => by decide +kernel
  | n + 1 => by
    rw [PySem.W.mc_fac_succ, Int.natCast_mul, facN n]
    rfl
theorem cr_factorial : CallR X (.builtin "math.factorial") rFactorial := by
  intro pins s σ H vs us Q I r h
  obtain ⟨n, rfl, hn, q⟩ := h
  obtain ⟨u, rfl, ru⟩ := vals1 r
  obtain ⟨tk, rfl⟩ := ru
  refine PySem.W.mc_factorial (by omega) (by omega) fun _ => ⟨.int _, H, I.tok _, ⟨_, rfl⟩, ?_⟩
  rw [show ((n : Int)).toNat = n by omega, facN]
  exact q
end
end EN

/-! operators that an own class defines, for instances with a dict -/
namespace EO
open PySem PySem.Spec PyProof.Rows L2
section
variable {prog : Program} {w : World} {A : Around} {E : Value → Shared → Prop} {s : Shared} {K : PySem.W.Frag} {x C f : Addr} {ox : Obj} {od : Option Obj} {b : Value}
/-- what comes back is a value -/
def Got (Q : Value → Shared → Prop) : Value → Shared → Prop := fun v s' => v ≠ .notImplemented ∧ Q v s'
theorem try_own {name : Str} {Q : Option Value → Shared → Prop} (kin : K.In s.heap) (inst : PySem.W.InstAt s.heap x ox C od) (at_ : PySem.W.findIn K (.ref C) name = some (some (.ref f))) (fn : PySem.W.isFn K (.ref f) = true)
    (run : wpAny (model prog w) A (call (.ref f) [.ref x, b]) (Got fun v s' => Q (some v) s') E s) : wpAny (model prog w) A (tryMethod (.ref x) name b) Q E s := by
  simp only [tryMethod]
  refine wpAny_bind (PySem.W.special_fn kin inst at_ (beq_iff_eq.mp fn) (wpAny_mono run (fun v s1 g => ?_) fun _ _ z => z))
  obtain ⟨ne, q⟩ := g
  cases v
  case notImplemented => exact absurd rfl ne
  all_goals exact wpAny_pure q
theorem cmp_own {name : Str} {Q : Option Value → Shared → Prop} (kin : K.In s.heap) (inst : PySem.W.InstAt s.heap x ox C od) (at_ : PySem.W.findIn K (.ref C) name = some (some (.ref f))) (fn : PySem.W.isFn K (.ref f) = true)
    (run : wpAny (model prog w) A (call (.ref f) [.ref x, b]) (Got fun v s' => Q (some v) s') E s) : wpAny (model prog w) A (tryCompare (.ref x) name b) Q E s := by
  simp only [tryCompare]
  refine wpAny_bind (PySem.W.ifBound_K kin inst at_ fn (wpAny_mono run (fun v s1 g => ?_) fun _ _ z => z))
  obtain ⟨ne, q⟩ := g
  cases v
  case notImplemented => exact absurd rfl ne
  all_goals exact wpAny_pure q
theorem un_own {op : UnaryOp} {name : Str} {Q : Value → Shared → Prop} (hop : op ≠ .Not) (hn : name = (match op with | .Invert => "__invert__" | .UAdd => "__pos__" | .USub => "__neg__" | .Not => ("" : Str)))
    (kin : K.In s.heap) (inst : PySem.W.InstAt s.heap x ox C od) (at_ : PySem.W.findIn K (.ref C) name = some (some (.ref f))) (fn : PySem.W.isFn K (.ref f) = true)
    (run : wpAny (model prog w) A (call (.ref f) [.ref x]) Q E s) : wpAny (model prog w) A (unaryOp op (.ref x)) Q E s := by
  subst hn
  cases op
  case Not => exact absurd rfl hop
  all_goals
    unfold unaryOp
    exact wpAny_holding (wpAny_bind (PySem.W.special_fn kin inst at_ (beq_iff_eq.mp fn) (wpAny_mono run (fun v s1 z => wpAny_pure z) fun _ _ z => z)))
theorem first_own (sf : PySem.W.selfFirst K C = true) : ∃ cd rest, PySem.W.clsIn K C = some cd ∧ cd.mro = .ref C :: rest := PySem.W.ksp_first sf
/-- a op b, both of the class C -/
theorem bin_same {op : Operator} {Q : Value → Shared → Prop} (kin : K.In s.heap) (inst : PySem.W.InstAt s.heap x ox C od) (tb : PySem.W.Looks (model prog w) s.heap (typeOf b) (.ref C)) (sf : PySem.W.selfFirst K C = true)
    (at_ : PySem.W.findIn K (.ref C) (PySem.dunder op.info.2) = some (some (.ref f))) (fn : PySem.W.isFn K (.ref f) = true) (run : wpAny (model prog w) A (call (.ref f) [.ref x, b]) (Got Q) E s) : wpAny (model prog w) A (binaryOp op (.ref x) b) Q E s := by
  obtain ⟨cd, rest, hcd, hm⟩ := first_own sf
  simp only [binaryOp]
  refine wpAny_holding (wpAny_bind ?_)
  simp only [binaryOp1]
  refine wpAny_bind (inst.type.here (wpAny_bind (tb.here (wpAny_bind ((PySem.W.fills_K kin hcd hm at_).here ?_)))))
  simp only [beq_self_eq_true, if_true, pure_bind, Bool.and_false, Bool.false_eq_true, if_false, Bool.false_and]
  refine wpAny_bind (try_own kin inst at_ fn (wpAny_mono run (fun v s1 g => ⟨g.1, ?_⟩) fun _ _ z => z))
  exact wpAny_pure (wpAny_pure g.2)
end
end EO

namespace EO
open PySem PySem.Spec PyProof.Rows L2
section
variable {prog : Program} {w : World} {A : Around} {E : Value → Shared → Prop} {s : Shared} {K : PySem.W.Frag} {x C f : Addr} {ox : Obj} {od : Option Obj} {b : Value} {T : String}
/-- what the top says of an own class beside the built-in type T, for the operator nm -/
structure Mix (K : PySem.W.Frag) (C : Addr) (T nm : String) : Prop where
  fo : ∃ r, PySem.W.findIn K (.type T) (PySem.dunder nm) = some r
  ro : ∃ r, PySem.W.findIn K (.type T) (dunderR nm) = some r
  cr : ∃ r, PySem.W.findIn K (.ref C) (dunderR nm) = some r ∧ (r = none ∨ ∃ g : Addr, r = some (.ref g))
  sub : PySem.W.subIn K (.type T) (.ref C) = some false
  sf : PySem.W.selfFirst K C = true
/-- a op b, a of the class C, b of a built-in type -/
theorem bin_left {op : Operator} {Q : Value → Shared → Prop} (mx : Mix K C T op.info.2) (kin : K.In s.heap) (inst : PySem.W.InstAt s.heap x ox C od) (tb : typeOf b = pure (.type T))
    (at_ : PySem.W.findIn K (.ref C) (PySem.dunder op.info.2) = some (some (.ref f))) (fn : PySem.W.isFn K (.ref f) = true) (run : wpAny (model prog w) A (call (.ref f) [.ref x, b]) (Got Q) E s) : wpAny (model prog w) A (binaryOp op (.ref x) b) Q E s := by
  obtain ⟨⟨fo, h1⟩, ⟨ro, h2⟩, ⟨rc, h3, h4⟩, h5, sf⟩ := mx
  obtain ⟨cd, rest, hcd, hm⟩ := first_own sf
  have k1 : PySem.W.Looks (model prog w) s.heap (typeOf b) (.type T) := PySem.W.Looks.of_pure tb
  have k2 := PySem.W.ksp_fillsT (M := model prog w) kin h1 h2
  have k3 : PySem.W.Looks (model prog w) s.heap (isSubtype (.type T) (.ref C)) false := PySem.W.looks_subIn kin h5
  have k4 : PySem.W.Looks (model prog w) s.heap (numberSlotInPython (.ref C) op.info.2) true := PySem.W.ksp_inPy kin at_ h3 h4
  have k5 : PySem.W.Looks (model prog w) s.heap (typeLookup (.type T) (dunderR op.info.2)) ro := PySem.W.looks_findIn kin h2
  have ne : (Value.ref C == Value.type T) = false := Bool.eq_false_iff.mpr fun q => nomatch beq_iff_eq.mp q
  have ne' : (Value.type T == Value.ref C) = false := Bool.eq_false_iff.mpr fun q => nomatch beq_iff_eq.mp q
  generalize ((fo.isSome && !isSeqSlot fo) || (ro.isSome && !isSeqSlot ro)) = right at k2
  have fin : wpAny (model prog w) A (tryMethod (.ref x) (PySem.dunder op.info.2) b) (fun r s' => ∃ v, r = some v ∧ Q v s') E s := try_own kin inst at_ fn (wpAny_mono run (fun v s1 g => ⟨g.1, v, rfl, g.2⟩) fun _ _ z => z)
  simp only [binaryOp]
  refine wpAny_holding (wpAny_bind ?_)
  simp only [binaryOp1]
  refine wpAny_bind (inst.type.here (wpAny_bind (k1.here (wpAny_bind ((PySem.W.fills_K kin hcd hm at_).here ?_)))))
  simp only [ne, Bool.false_eq_true, if_false]
  refine wpAny_bind (k2.here ?_)
  cases right with
  | false =>
    simp only [Bool.and_false, Bool.false_eq_true, if_false, pure_bind, Bool.false_and, if_true]
    refine wpAny_bind (wpAny_mono fin (fun r s1 g => ?_) fun _ _ z => z)
    obtain ⟨v, rfl, q⟩ := g
    exact wpAny_pure (wpAny_pure q)
  | true =>
    simp only [Bool.and_self, if_true, Bool.not_false, Bool.false_eq_true, if_false]
    refine wpAny_bind (k3.here ?_)
    simp only [Bool.false_eq_true, if_false, pure_bind, if_true, Bool.and_self, Bool.not_false]
    refine wpAny_bind (k4.here ?_)
    simp only [if_true]
    refine wpAny_bind (wpAny_pure ?_)
    simp only [Bool.not_false, if_true]
    refine wpAny_bind (k5.here ?_)
    refine wpAny_bind (wpAny_mono fin (fun r s1 g => ?_) fun _ _ z => z)
    obtain ⟨v, rfl, q⟩ := g
    exact wpAny_pure (wpAny_pure q)
end
end EO

namespace EO
open PySem PySem.Spec PyProof.Rows L2
section
variable {prog : Program} {w : World} {A : Around} {E : Value → Shared → Prop} {s : Shared} {K : PySem.W.Frag} {x C f f0 : Addr} {ox : Obj} {od : Option Obj} {b : Value} {i : Int} {t : Tok}
/-- an int's own method does not take an own instance -/
def IntNo (prog : Program) (w : World) (B : Builtin) : Prop := ∀ (A : Around) (E : Value → Shared → Prop) (s : Shared) (x C : Addr) (ox : Obj) (od : Option Obj) (i : Int) (t : Tok) (Q : Value → Shared → Prop), PySem.W.InstAt s.heap x ox C od → ox.data = .plain → Q .notImplemented s →
  wpAny (model prog w) A (B ⟨[.int i t, .ref x], []⟩) (fun fin s' => ∃ v, fin = .done (.ret v) ∧ Q v s') E s
theorem no_add : IntNo prog w Builtin.«int.__add__» := by
  intro A E s x C ox od i t Q inst pl q
  obtain ⟨h, gs, d, tk, os⟩ := s
  have at_ : h.get? x = some ox := inst.at_
  obtain ⟨cls, dd, data, sl⟩ := ox
  cases pl
  wp_walk using wpAny_loadPart' at_, wpAny_load at_
  exact ⟨_, rfl, q⟩
theorem no_sub : IntNo prog w Builtin.«int.__sub__» := by
  intro A E s x C ox od i t Q inst pl q
  obtain ⟨h, gs, d, tk, os⟩ := s
  have at_ : h.get? x = some ox := inst.at_
  obtain ⟨cls, dd, data, sl⟩ := ox
  cases pl
  wp_walk using wpAny_loadPart' at_, wpAny_load at_
  exact ⟨_, rfl, q⟩
theorem no_mul : IntNo prog w Builtin.«int.__mul__» := by
  intro A E s x C ox od i t Q inst pl q
  obtain ⟨h, gs, d, tk, os⟩ := s
  have at_ : h.get? x = some ox := inst.at_
  obtain ⟨cls, dd, data, sl⟩ := ox
  cases pl
  wp_walk using wpAny_loadPart' at_, wpAny_load at_
  exact ⟨_, rfl, q⟩
theorem no_le : IntNo prog w Builtin.«int.__le__» := by
  intro A E s x C ox od i t Q inst pl q
  obtain ⟨h, gs, d, tk, os⟩ := s
  have at_ : h.get? x = some ox := inst.at_
  obtain ⟨cls, dd, data, sl⟩ := ox
  cases pl
  wp_walk using wpAny_loadPart' at_, wpAny_load at_
  exact ⟨_, rfl, q⟩
theorem no_lt : IntNo prog w Builtin.«int.__lt__» := by
  intro A E s x C ox od i t Q inst pl q
  obtain ⟨h, gs, d, tk, os⟩ := s
  have at_ : h.get? x = some ox := inst.at_
  obtain ⟨cls, dd, data, sl⟩ := ox
  cases pl
  wp_walk using wpAny_loadPart' at_, wpAny_load at_
  exact ⟨_, rfl, q⟩
theorem no_ge : IntNo prog w Builtin.«int.__ge__» := by
  intro A E s x C ox od i t Q inst pl q
  obtain ⟨h, gs, d, tk, os⟩ := s
  have at_ : h.get? x = some ox := inst.at_
  obtain ⟨cls, dd, data, sl⟩ := ox
  cases pl
  wp_walk using wpAny_loadPart' at_, wpAny_load at_
  exact ⟨_, rfl, q⟩
theorem no_gt : IntNo prog w Builtin.«int.__gt__» := by
  intro A E s x C ox od i t Q inst pl q
  obtain ⟨h, gs, d, tk, os⟩ := s
  have at_ : h.get? x = some ox := inst.at_
  obtain ⟨cls, dd, data, sl⟩ := ox
  cases pl
  wp_walk using wpAny_loadPart' at_, wpAny_load at_
  exact ⟨_, rfl, q⟩
/-- .. as the operator's first try, as a comparison's -/
theorem int_tryno {name : Str} {id : String} {B : Builtin} (slot : Slot "int" name id) (ent : entryFor table id = some B) (no : IntNo prog w B) (args : argsOk id ⟨[.int i t, .ref x], []⟩) (inst : PySem.W.InstAt s.heap x ox C od) (pl : ox.data = .plain)
    {Q : Option Value → Shared → Prop} (q : Q none s) : wpAny (model prog w) A (tryMethod (.int i t) name (.ref x)) Q E s :=
  wpAny_tryMethod_declines (typeIs_int s i t) slot (wpAny_call_entry slot (typeIs_int s i t) ent (no _ _ _ x C ox od i t (fun v s' => v = .notImplemented ∧ Q none s') inst pl ⟨rfl, q⟩) args)
theorem int_cmpno {name : Str} {id : String} {B : Builtin} (slot : Slot "int" name id) (ent : entryFor table id = some B) (no : IntNo prog w B) (args : argsOk id ⟨[.int i t, .ref x], []⟩) (inst : PySem.W.InstAt s.heap x ox C od) (pl : ox.data = .plain)
    {Q : Option Value → Shared → Prop} (q : Q none s) : wpAny (model prog w) A (tryCompare (.int i t) name (.ref x)) Q E s :=
  wpAny_tryCompare_declines (typeIs_int s i t) slot (wpAny_call_entry slot (typeIs_int s i t) ent (no _ _ _ x C ox od i t (fun v s' => v = .notImplemented ∧ Q none s') inst pl ⟨rfl, q⟩) args)
/-- a op b, a an int, b of the class C -/
theorem bin_right {op : Operator} {Q : Value → Shared → Prop} (fill : fillsNumberSlot (.type "int") op.info.2 = pure true) (kin : K.In s.heap) (inst : PySem.W.InstAt s.heap x ox C od) (sf : PySem.W.selfFirst K C = true) (sub : PySem.W.subIn K (.ref C) (.type "int") = some false)
    (at0 : PySem.W.findIn K (.ref C) (PySem.dunder op.info.2) = some (some (.ref f0))) (at_ : PySem.W.findIn K (.ref C) (dunderR op.info.2) = some (some (.ref f))) (fn : PySem.W.isFn K (.ref f) = true)
    (no : ∀ Q : Option Value → Shared → Prop, Q none s → wpAny (model prog w) A (tryMethod (.int i t) (PySem.dunder op.info.2) (.ref x)) Q E s)
    (run : wpAny (model prog w) A (call (.ref f) [.ref x, .int i t]) (Got Q) E s) : wpAny (model prog w) A (binaryOp op (.int i t) (.ref x)) Q E s := by
  obtain ⟨cd, rest, hcd, hm⟩ := first_own sf
  have k1 : PySem.W.Looks (model prog w) s.heap (typeOf (.int i t)) (.type "int") := PySem.W.Looks.of_pure rfl
  have k2 : PySem.W.Looks (model prog w) s.heap (fillsNumberSlot (.type "int") op.info.2) true := PySem.W.Looks.of_pure fill
  have k3 : PySem.W.Looks (model prog w) s.heap (isSubtype (.ref C) (.type "int")) false := PySem.W.looks_subIn kin sub
  have ne : (Value.type "int" == Value.ref C) = false := Bool.eq_false_iff.mpr fun q => nomatch beq_iff_eq.mp q
  have nw : numberSlotInPython (.type "int") op.info.2 = pure false := rfl
  have fin : wpAny (model prog w) A (tryMethod (.ref x) (dunderR op.info.2) (.int i t)) (fun r s' => ∃ v, r = some v ∧ Q v s') E s := try_own kin inst at_ fn (wpAny_mono run (fun v s1 g => ⟨g.1, v, rfl, g.2⟩) fun _ _ z => z)
  simp only [binaryOp]
  refine wpAny_holding (wpAny_bind ?_)
  simp only [binaryOp1]
  refine wpAny_bind (k1.here (wpAny_bind (inst.type.here (wpAny_bind (k2.here ?_)))))
  simp only [ne, Bool.false_eq_true, if_false]
  refine wpAny_bind ((PySem.W.fills_K kin hcd hm at0).here ?_)
  simp only [Bool.and_self, if_true]
  refine wpAny_bind (k3.here ?_)
  simp only [Bool.false_eq_true, if_false, pure_bind, Bool.not_false, Bool.and_self, if_true, nw]
  refine wpAny_bind (no _ ?_)
  simp only [Bool.false_eq_true, if_false, pure_bind, Bool.not_false, Bool.and_self, if_true]
  refine wpAny_bind (wpAny_mono fin (fun r s1 g => ?_) fun _ _ z => z)
  obtain ⟨v, rfl, q⟩ := g
  repeat (first | exact wpAny_pure q | refine wpAny_pure ?_ | wp_step)
end
end EO

namespace EO
open PySem PySem.Spec PyProof.Rows L2
section
variable {prog : Program} {w : World} {A : Around} {E : Value → Shared → Prop} {s : Shared} {K : PySem.W.Frag} {x C f f0 : Addr} {ox : Obj} {od : Option Obj} {b tb : Value} {i : Int} {t : Tok}
/-- a op b, a of the class C with a method of its own for op -/
theorem rc_left {op : CmpOp} {Q : Value → Shared → Prop} (hu : A.units < cLine) (kin : K.In s.heap) (inst : PySem.W.InstAt s.heap x ox C od) (ty : PySem.W.Looks (model prog w) s.heap (typeOf b) tb) (nf : PySem.W.notFirst K C tb = true)
    (fin : wpAny (model prog w) A (tryCompare (.ref x) (cmpInfo op).2.1 b) (fun r s' => ∃ v, r = some v ∧ Q v s') E s) : wpAny (model prog w) A (richCompare op (.ref x) b) Q E s := by
  simp only [richCompare, oneThing_ref]
  refine wpAny_holding (wpAny_bind (wpAny_cRoomFor hu ?_))
  refine wpAny_bind (inst.type.here (wpAny_bind (ty.here ?_)))
  have last : wpAny (model prog w) A (tryCompare (.ref x) (cmpInfo op).2.1 b) (fun r s' => ∃ v, r = some v ∧ Q v s') E s := fin
  by_cases same : (Value.ref C != tb) = true
  · have sub : PySem.W.subIn K tb (.ref C) = some false := by
      rcases Bool.or_eq_true_iff.mp nf with e | e
      · rw [beq_iff_eq.mp e] at same
        simp at same
      · exact beq_iff_eq.mp e
    rw [if_pos same]
    refine wpAny_bind ((PySem.W.looks_subIn kin sub).here ?_)
    simp only [Bool.false_eq_true, if_false]
    refine wpAny_bind (wpAny_mono last (fun r s1 g => ?_) fun _ _ z => z)
    obtain ⟨v, rfl, q⟩ := g
    exact wpAny_pure q
  · rw [if_neg same]
    refine wpAny_bind (wpAny_pure ?_)
    simp only [Bool.false_eq_true, if_false]
    refine wpAny_bind (wpAny_mono last (fun r s1 g => ?_) fun _ _ z => z)
    obtain ⟨v, rfl, q⟩ := g
    exact wpAny_pure q
/-- .. b of the class C, an int ahead -/
theorem rc_right {op : CmpOp} {Q : Value → Shared → Prop} (hu : A.units < cLine) (kin : K.In s.heap) (inst : PySem.W.InstAt s.heap x ox C od) (sub : PySem.W.subIn K (.ref C) (.type "int") = some false)
    (no : ∀ Q : Option Value → Shared → Prop, Q none s → wpAny (model prog w) A (tryCompare (.int i t) (cmpInfo op).2.1 (.ref x)) Q E s)
    (fin : wpAny (model prog w) A (tryCompare (.ref x) (cmpInfo op).2.2 (.int i t)) (fun r s' => ∃ v, r = some v ∧ Q v s') E s) : wpAny (model prog w) A (richCompare op (.int i t) (.ref x)) Q E s := by
  have one : oneThing? op (.int i t) (.ref x) = none := by cases op <;> rfl
  simp only [richCompare, one]
  refine wpAny_holding (wpAny_bind (wpAny_cRoomFor hu ?_))
  have k1 : PySem.W.Looks (model prog w) s.heap (typeOf (.int i t)) (.type "int") := PySem.W.Looks.of_pure rfl
  refine wpAny_bind (k1.here (wpAny_bind (inst.type.here ?_)))
  have ne : (Value.type "int" != Value.ref C) = true := by simp
  rw [if_pos ne]
  refine wpAny_bind ((PySem.W.looks_subIn kin sub).here ?_)
  simp only [Bool.false_eq_true, if_false]
  refine wpAny_bind (no _ ?_)
  simp only [Bool.not_false, if_true]
  refine wpAny_bind (wpAny_mono fin (fun r s1 g => ?_) fun _ _ z => z)
  obtain ⟨v, rfl, q⟩ := g
  exact wpAny_pure q
/-- a != b by an own __eq__ -/
theorem ne_try {Q : Option Value → Shared → Prop} (hu : A.units + 1 < cLine) (kin : K.In s.heap) (inst : PySem.W.InstAt s.heap x ox C od) (at0 : PySem.W.findIn K (.ref C) "__ne__" = some (some (.builtin "object.__ne__"))) (sub : PySem.W.subIn K (.ref C) (.type "object") = some true)
    (at_ : PySem.W.findIn K (.ref C) "__eq__" = some (some (.ref f))) (fn : PySem.W.isFn K (.ref f) = true)
    (run : wpAny (model prog w) A.in1 (call (.ref f) [.ref x, b]) (fun v s' => ∃ c, v = .bool c ∧ Q (some (.bool (!c))) s') E s) : wpAny (model prog w) A (tryCompare (.ref x) "__ne__" b) Q E s := by
  have inner : wpAny (model prog w) A.in1 (Builtin.«object.__ne__» ⟨[.ref x, b], []⟩) (fun fin s' => ∃ v, fin = .done (.ret v) ∧ v ≠ .notImplemented ∧ Q (some v) s') E s := by
    unfold Builtin.«object.__ne__»
    have eqs : wpAny (model prog w) A.in1 (callSpecialIfBound? (.ref x) "__eq__" [b]) (fun r s' => ∃ c, r = some (.bool c) ∧ Q (some (.bool (!c))) s') E s :=
      PySem.W.ifBound_K kin inst at_ fn (wpAny_mono run (fun v s1 ⟨c, e, q⟩ => ⟨c, by rw [e], q⟩) fun _ _ z => z)
    repeat (first
      | with_reducible refine wpAny_cRoomFor (show A.in1.units < cLine from hu) ?_
      | (refine wpAny_bind (m := callSpecialIfBound? (.ref x) (Str.ofString "__eq__") [b]) (wpAny_mono eqs (fun r s1 g => by
          obtain ⟨c, rfl, q⟩ := g
          refine wpAny_bind (m := truthy (.bool c)) (wpAny_truthy_bool ?_)
          exact wpAny_pure ⟨_, rfl, (fun z => nomatch z), q⟩) fun _ _ z => z))
      | wp_step)
  simp only [tryCompare]
  refine wpAny_bind ?_
  simp only [callSpecialIfBound?, bindSpecialIfBound?]
  have called : wpAny (model prog w) A (call (.builtin "object.__ne__") [.ref x, b]) (fun v s' => v ≠ .notImplemented ∧ Q (some v) s') E s := by
    refine wpAny_call (codeAny_call_builtin PySem.F.cmp_object.ne.plain PySem.F.cmpEntry_ne (PySem.W.check_slot PySem.F.cmpKind_ne PySem.F.cmpSplit_ne (inst.type.andThen (PySem.W.looks_subIn kin sub)) (PySem.F.cmpArgs_ne _ _) (wpAny_mono inner (fun fin s1 g => ?_) fun _ _ z => z)))
    obtain ⟨v, rfl, g⟩ := g
    exact g
  refine wpAny_holding (wpAny_bind (wpAny_bind (wpAny_bind (inst.type.here ((PySem.W.looks_findIn kin at0).here ?_)))))
  have fin : wpAny (model prog w) A (call (.builtin "object.__ne__") ([.ref x] ++ [b]) >>= fun v => pure (some v)) (fun r s' => wpAny (model prog w) A (match r with | some .notImplemented | none => pure none | some v => pure (some v)) Q E s') E s := by
    refine wpAny_bind (wpAny_mono called (fun v s1 g => wpAny_pure ?_) fun _ _ z => z)
    obtain ⟨ne, q⟩ := g
    cases v
    case notImplemented => exact absurd rfl ne
    all_goals exact wpAny_pure q
  refine wpAny_bind (wpAny_askSetting (wpAny_ite ?_))
  have bd : bindSpecial (.builtin "object.__ne__") (.ref x) = pure (.builtin "object.__ne__", [.ref x]) := PySem.F.cmp_object.ne.bind _
  split
  · rw [bd]
    exact wpAny_bind (wpAny_pure (wpAny_pure (by exact fin)))
  · rw [bd]
    exact wpAny_tryCatch (wpAny_bind (wpAny_pure (wpAny_pure (by exact fin))))
end
end EO

namespace EO
open PySem PySem.Spec PyProof.Rows L2
/-- the class at C has the method m, a def that keeps sp by level k -/
structure OpH (P : Program) (w : World) (K : PySem.W.Frag) (mg : Str → Option Value) (base : Heap) (k : Nat) (C : Addr) (m : Str) (sp : Sp) : Prop where
  ex : ∃ g : Addr, PySem.W.findIn K (.ref C) m = some (some (.ref g)) ∧ PySem.W.isFn K (.ref g) = true ∧ FnR P w K mg base CX0 k g sp
/-- C has no != of its own -/
structure NeObj (K : PySem.W.Frag) (C : Addr) : Prop where
  at_ : PySem.W.findIn K (.ref C) "__ne__" = some (some (.builtin "object.__ne__"))
  sub : PySem.W.subIn K (.ref C) (.type "object") = some true
/-- the values that come back from a def -/
theorem got_of {X : Cx} {pins : List (Addr × Obj)} {σ : L2.St} {Q : VK} : ∀ v s', EP X pins σ Q v s' → Got (EP X pins σ Q) v s' := fun v s' h => by
  refine ⟨fun e => ?_, h⟩
  obtain ⟨z, H', _, r, _⟩ := h
  subst e
  cases z
  all_goals first | exact nomatch r | (obtain ⟨_, r⟩ := r; exact nomatch r)
section
variable {X : Cx} {k : Nat} {C : Addr} {sp : Sp} {m : Str}
theorem run_met {pins : List (Addr × Obj)} {σ : L2.St} {H : Hp} {s : Shared} {Q : VK} {g a : Addr} {us : List Value} {vs : List V} (F : FnR X.prog X.w X.K X.mg X.base CX0 k g sp) (hr : Room k X.A) (I : Inv X pins σ H s) (r : Vals vs us) (h : sp (.ref a :: vs) H Q E0) :
    wpAny (model X.prog X.w) X.A (call (.ref g) (.ref a :: us)) (EP X pins σ Q) X.xe s := wpAny_call (run_fnR (us := .ref a :: us) (vs := .ref a :: vs) F hr pass0 I (.cons rfl r) h)
/-- .. a step further in, a truth value comes back -/
theorem run_met1 {pins : List (Addr × Obj)} {σ : L2.St} {H : Hp} {s : Shared} {Q : VK} {g a : Addr} {us : List Value} {vs : List V} {E' : Value → Shared → Prop} (F : FnR X.prog X.w X.K X.mg X.base CX0 k g sp) (hr : Room (k + 1) X.A) (I : Inv X pins σ H s) (r : Vals vs us)
    (h : sp (.ref a :: vs) H Q E0) : wpAny (model X.prog X.w) X.A.in1 (call (.ref g) (.ref a :: us)) (EP X pins σ Q) E' s := by
  refine wpAny_call (codeAny_mono (F X.A.in1 X.stack s H (.ref a :: us) (.ref a :: vs) Q E0 hr.in1 I.env0.in1 (.cons rfl r) h) fun r s' hq => ?_)
  cases r with
  | error er => exact False.elim (pass0 (X := X.nox) pins σ H s er s' (I.wish _) hq)
  | ok fl =>
    cases fl with
    | ret u => exact I.after hq
    | next => exact False.elim hq
    | brk => exact False.elim hq
    | cont => exact False.elim hq
/-- both of the class -/
def rOO (C : Addr) (sp : Sp) : R2 := fun x y H Q => ∃ a dx fs b dy gs, x = .ref a ∧ y = .ref b ∧ H a = some (.ins C dx fs) ∧ H b = some (.ins C dy gs) ∧ sp [.ref a, .ref b] H Q E0
/-- the left one of the class, an int -/
def rOI (C : Addr) (sp : Sp) : R2 := fun x y H Q => ∃ a dx fs i, x = .ref a ∧ y = .int i ∧ H a = some (.ins C dx fs) ∧ sp [.ref a, .int i] H Q E0
/-- an int, the right one of the class -/
def rIO (C : Addr) (sp : Sp) : R2 := fun x y H Q => ∃ i b dy gs, x = .int i ∧ y = .ref b ∧ H b = some (.ins C dy gs) ∧ sp [.ref b, .int i] H Q E0
/-- a != b by == -/
def rNO (C : Addr) (sp : Sp) : R2 := fun x y H Q => ∃ a dx fs b dy gs, x = .ref a ∧ y = .ref b ∧ H a = some (.ins C dx fs) ∧ H b = some (.ins C dy gs) ∧ sp [.ref a, .ref b] H (fun v H' => ∃ c, v = .bl c ∧ Q (.bl (!c)) H') E0
def rU1 (C : Addr) (sp : Sp) : V → Hp → VK → Prop := fun x H Q => ∃ a dx fs, x = .ref a ∧ H a = some (.ins C dx fs) ∧ sp [.ref a] H Q E0
theorem op_oo {op : Operator} (O : OpH X.prog X.w X.K X.mg X.base k C (PySem.dunder op.info.2) sp) (sf : PySem.W.selfFirst X.K C = true) (hr : Room k X.A) : OpR X (binaryOp op) (rOO C sp) := by
  intro pins s σ H x y v u Q I rx ry h
  obtain ⟨a, dx, fs, b, dy, gs, rfl, rfl, ha, hb, q⟩ := h
  obtain rfl : v = Value.ref a := rx
  obtain rfl : u = Value.ref b := ry
  obtain ⟨g, at_, fn, F⟩ := O.ex
  obtain ⟨ox, od, J, _⟩ := StX.insC_at I (.inr ⟨dx, fs, ha⟩)
  obtain ⟨oy, oe, L, _⟩ := StX.insC_at I (.inr ⟨dy, gs, hb⟩)
  exact bin_same I.kIn J L.type sf at_ fn (wpAny_mono (run_met (vs := [.ref b]) F hr I (.cons rfl .nil) q) got_of fun _ _ z => z)
theorem op_oi {op : Operator} (O : OpH X.prog X.w X.K X.mg X.base k C (PySem.dunder op.info.2) sp) (mx : Mix X.K C "int" op.info.2) (hr : Room k X.A) : OpR X (binaryOp op) (rOI C sp) := by
  intro pins s σ H x y v u Q I rx ry h
  obtain ⟨a, dx, fs, i, rfl, rfl, ha, q⟩ := h
  obtain rfl : v = Value.ref a := rx
  obtain ⟨t, rfl⟩ := ry
  obtain ⟨g, at_, fn, F⟩ := O.ex
  obtain ⟨ox, od, J, _⟩ := StX.insC_at I (.inr ⟨dx, fs, ha⟩)
  exact bin_left mx I.kIn J rfl at_ fn (wpAny_mono (run_met (vs := [.int i]) F hr I (.cons ⟨t, rfl⟩ .nil) q) got_of fun _ _ z => z)
/-- what an int's own method says, for the operator -/
structure IntDecl (prog : Program) (w : World) (op : Operator) : Prop where
  fill : fillsNumberSlot (.type "int") op.info.2 = pure true
  ex : ∃ (id : String) (B : Builtin), Slot "int" (PySem.dunder op.info.2) id ∧ entryFor table id = some B ∧ IntNo prog w B ∧ ∀ (i : Int) (t : Tok) (x : Addr), argsOk id ⟨[.int i t, .ref x], []⟩
theorem dec_add {prog : Program} {w : World} : IntDecl prog w .Add := ⟨PySem.F.fills_int_add, _, _, PySem.F.slot_int_add, PySem.F.entry_int_add, no_add, fun _ _ _ => PySem.F.args_int_add_2 _ _⟩
theorem dec_sub {prog : Program} {w : World} : IntDecl prog w .Sub := ⟨PySem.F.fills_int_sub, _, _, PySem.F.slot_int_sub, PySem.F.entry_int_sub, no_sub, fun _ _ _ => PySem.F.args_int_sub_2 _ _⟩
theorem dec_mul {prog : Program} {w : World} : IntDecl prog w .Mult := ⟨PySem.F.fills_int_mul, _, _, PySem.F.slot_int_mul, PySem.F.entry_int_mul, no_mul, fun _ _ _ => PySem.F.args_int_mul_2 _ _⟩
theorem op_io {op : Operator} {g0 : Addr} (O : OpH X.prog X.w X.K X.mg X.base k C (dunderR op.info.2) sp) (D : IntDecl X.prog X.w op) (at0 : PySem.W.findIn X.K (.ref C) (PySem.dunder op.info.2) = some (some (.ref g0))) (sf : PySem.W.selfFirst X.K C = true)
    (sub : PySem.W.subIn X.K (.ref C) (.type "int") = some false) (hr : Room k X.A) : OpR X (binaryOp op) (rIO C sp) := by
  intro pins s σ H x y v u Q I rx ry h
  obtain ⟨i, b, dy, gs, rfl, rfl, hb, q⟩ := h
  obtain ⟨t, rfl⟩ := rx
  obtain rfl : u = Value.ref b := ry
  obtain ⟨g, at_, fn, F⟩ := O.ex
  obtain ⟨fill, id, B, slot, ent, no, args⟩ := D
  obtain ⟨oy, oe, L, pl⟩ := StX.insC_at I (.inr ⟨dy, gs, hb⟩)
  exact bin_right fill I.kIn L sf sub at0 at_ fn (fun R r => int_tryno slot ent no (args _ _ _) L pl r) (wpAny_mono (run_met (vs := [.int i]) F hr I (.cons ⟨t, rfl⟩ .nil) q) got_of fun _ _ z => z)
theorem un_oo {op : UnaryOp} (hop : op ≠ .Not) (hn : m = (match op with | .Invert => "__invert__" | .UAdd => "__pos__" | .USub => "__neg__" | .Not => ("" : Str))) (O : OpH X.prog X.w X.K X.mg X.base k C m sp) (hr : Room k X.A) : UnR X (unaryOp op) (rU1 C sp) := by
  intro pins s σ H x v Q I rx h
  obtain ⟨a, dx, fs, rfl, ha, q⟩ := h
  obtain rfl : v = Value.ref a := rx
  obtain ⟨g, at_, fn, F⟩ := O.ex
  obtain ⟨ox, od, J, _⟩ := StX.insC_at I (.inr ⟨dx, fs, ha⟩)
  exact un_own hop hn I.kIn J at_ fn (run_met F hr I .nil q)
/-- a comparison by an own method, between two of the class, of one with an int -/
theorem cmp_of {op : CmpOp} (hop : (cmpInfo op).1 ≠ "") {a b : Value} {M : Model} {A : Around} {E : Value → Shared → Prop} {s : Shared} {Q : Value → Shared → Prop} (h : wpAny M A (richCompare op a b) Q E s) : wpAny M A (compareOp op a b) Q E s := by
  cases op
  all_goals first | exact h | exact absurd rfl hop
theorem op_coo {op : CmpOp} (hop : (cmpInfo op).1 ≠ "") (O : OpH X.prog X.w X.K X.mg X.base k C (cmpInfo op).2.1 sp) (hr : Room k X.A) : OpR X (compareOp op) (rOO C sp) := by
  intro pins s σ H x y v u Q I rx ry h
  obtain ⟨a, dx, fs, b, dy, gs, rfl, rfl, ha, hb, q⟩ := h
  obtain rfl : v = Value.ref a := rx
  obtain rfl : u = Value.ref b := ry
  obtain ⟨g, at_, fn, F⟩ := O.ex
  obtain ⟨ox, od, J, _⟩ := StX.insC_at I (.inr ⟨dx, fs, ha⟩)
  obtain ⟨oy, oe, L, _⟩ := StX.insC_at I (.inr ⟨dy, gs, hb⟩)
  exact cmp_of hop (rc_left hr.units0 I.kIn J L.type (by unfold PySem.W.notFirst; simp) (cmp_own I.kIn J at_ fn (wpAny_mono (run_met (vs := [.ref b]) F hr I (.cons rfl .nil) q) (fun z s1 e => ⟨(got_of _ _ e).1, z, rfl, e⟩) fun _ _ z => z)))
theorem op_coi {op : CmpOp} (hop : (cmpInfo op).1 ≠ "") (O : OpH X.prog X.w X.K X.mg X.base k C (cmpInfo op).2.1 sp) (sub : PySem.W.subIn X.K (.type "int") (.ref C) = some false) (hr : Room k X.A) : OpR X (compareOp op) (rOI C sp) := by
  intro pins s σ H x y v u Q I rx ry h
  obtain ⟨a, dx, fs, i, rfl, rfl, ha, q⟩ := h
  obtain rfl : v = Value.ref a := rx
  obtain ⟨t, rfl⟩ := ry
  obtain ⟨g, at_, fn, F⟩ := O.ex
  obtain ⟨ox, od, J, _⟩ := StX.insC_at I (.inr ⟨dx, fs, ha⟩)
  exact cmp_of hop (rc_left hr.units0 I.kIn J (tb := .type "int") (PySem.W.Looks.of_pure rfl) (by unfold PySem.W.notFirst; rw [sub]; simp) (cmp_own I.kIn J at_ fn (wpAny_mono (run_met (vs := [.int i]) F hr I (.cons ⟨t, rfl⟩ .nil) q) (fun z s1 e => ⟨(got_of _ _ e).1, z, rfl, e⟩) fun _ _ z => z)))
theorem op_nee (O : OpH X.prog X.w X.K X.mg X.base k C "__eq__" sp) (N : NeObj X.K C) (hr : Room (k + 1) X.A) : OpR X (compareOp .NotEq) (rNO C sp) := by
  intro pins s σ H x y v u Q I rx ry h
  obtain ⟨a, dx, fs, b, dy, gs, rfl, rfl, ha, hb, q⟩ := h
  obtain rfl : v = Value.ref a := rx
  obtain rfl : u = Value.ref b := ry
  obtain ⟨g, at_, fn, F⟩ := O.ex
  obtain ⟨ox, od, J, _⟩ := StX.insC_at I (.inr ⟨dx, fs, ha⟩)
  obtain ⟨oy, oe, L, _⟩ := StX.insC_at I (.inr ⟨dy, gs, hb⟩)
  refine cmp_of (op := .NotEq) (by decide) (rc_left hr.units0 I.kIn J L.type (by unfold PySem.W.notFirst; simp) (ne_try (show X.A.units + 1 < cLine from by have := hr.units; omega) I.kIn J N.at_ N.sub at_ fn (wpAny_mono (run_met1 (vs := [.ref b]) F hr I (.cons rfl .nil) q) (fun z s1 e => ?_) fun _ _ z => z)))
  obtain ⟨v, H', I1, r, c, rfl, q1⟩ := e
  cases (show z = Value.bool c from r)
  exact ⟨c, rfl, _, rfl, .bl _, H', I1, rfl, q1⟩
end
end EO

namespace EO
open PySem PySem.Spec PyProof.Rows L2
section
variable {prog : Program} {w : World} {A : Around} {E : Value → Shared → Prop} {s : Shared} {K : PySem.W.Frag} {x C f : Addr} {ox : Obj} {od : Option Obj} {b : Value}
/-- a op= b, a of a class with a method of its own for it -/
theorem in_own {op : Operator} {Q : Value → Shared → Prop} (kin : K.In s.heap) (inst : PySem.W.InstAt s.heap x ox C od) (sf : PySem.W.selfFirst K C = true) (at_ : PySem.W.findIn K (.ref C) (dunderI op.info.2) = some (some (.ref f)))
    (fn : PySem.W.isFn K (.ref f) = true) (run : wpAny (model prog w) A (call (.ref f) [.ref x, b]) (Got Q) E s) : wpAny (model prog w) A (inplaceOp op (.ref x) b) Q E s := by
  obtain ⟨cd, rest, hcd, hm⟩ := first_own sf
  have fills : PySem.W.Looks (model prog w) s.heap (fillsInplaceSlot (.ref C) op.info.2 (op == .Add)) true := PySem.W.ksp_fillsI kin hcd hm at_
  unfold inplaceOp
  refine wpAny_holding (wpAny_bind (inst.type.here (wpAny_bind (fills.here ?_))))
  rw [if_pos rfl]
  refine wpAny_bind (try_own kin inst at_ fn (wpAny_mono run (fun v s1 g => ⟨g.1, ?_⟩) fun _ _ z => z))
  dsimp only
  first
    | exact wpAny_pure (M := model prog w) (A := A) (E := E) g.2
    | exact wpAny_bind (wpAny_pure (M := model prog w) (A := A) (E := E) (wpAny_pure g.2))
    | (repeat (first | exact g.2 | wp_step))
end
section
variable {X : Cx} {k : Nat} {C : Addr} {sp : Sp} {m : Str}
theorem op_in {op : Operator} (O : OpH X.prog X.w X.K X.mg X.base k C (dunderI op.info.2) sp) (sf : PySem.W.selfFirst X.K C = true) (hr : Room k X.A) : OpR X (inplaceOp op) (rOO C sp) := by
  intro pins s σ H x y v u Q I rx ry h
  obtain ⟨a, dx, fs, b, dy, gs, rfl, rfl, ha, hb, q⟩ := h
  obtain rfl : v = Value.ref a := rx
  obtain rfl : u = Value.ref b := ry
  obtain ⟨g, at_, fn, F⟩ := O.ex
  obtain ⟨ox, od, J, _⟩ := StX.insC_at I (.inr ⟨dx, fs, ha⟩)
  exact in_own I.kIn J sf at_ fn (wpAny_mono (run_met (vs := [.ref b]) F hr I (.cons rfl .nil) q) got_of fun _ _ z => z)
end
end EO

namespace EN
open PySem L2 PyProof.Rows
section
variable {P : Program} {w : World} {K : PySem.W.Frag} {mg : Str → Option Value} {base : Heap} {f : Addr} {fd : FuncData}
structure MkH (P : Program) (w : World) (K : PySem.W.Frag) (mg : Str → Option Value) (base : Heap) (k : Nat) (C : Addr) (dvs : List V) (sp : Sp) : Prop where
  ex : ∃ (f : Addr) (fd : FuncData) (ps : List Str) (ds : List Value), Mk K C f ∧ FnOk P w K mg base CX0 k f fd ps sp ∧ Binds K fd ps ds ∧ Vals dvs ds
section
variable {X : Cx} {k : Nat} {C : Addr} {dvs : List V} {sp : Sp} {x m : Str} {p pos apos : Pos} {o e : Expr} {es : List Expr} {t : TA} {ta : TE} {pl : Sem Bool}
theorem pe_mkH (O : MkH X.prog X.w X.K X.mg X.base k C dvs sp) (hr : Room (k + 1) X.A) (hg : Gl X x) (hm : X.mg x = some (.ref C)) (ha : PA X (e :: es) t) (hdb : (x == ("__debug__" : Str)) = false := by decide)
    (he : starEach (e :: es) X.env = (false, eval e X.env) :: starEach es X.env := by rfl) (hpl : (backTo pos (starEach es X.env)).any (·.1) = false := by rfl) : PE X (.Call (.Name x p) (e :: es) [] pos) (tMake C sp dvs E0 t) := by
  obtain ⟨f, fd, ps, ds, M, F, hb, hd⟩ := O.ex
  exact pe_make M F hr hg hm hb hd pass0 ha hdb he hpl
end
theorem okD {x qual : Str} {params : Arguments} {body : List Stmt} {scope : Scope} {dvs : List V} {kws : List (Str × V)} {N ps : List Str} {k : Nat} {sp : Sp} (F : FunD K x qual params body scope dvs kws f fd) (S : FnScope N ps scope) (len : ∀ vs H Q E, sp vs H Q E → vs.length = ps.length)
    (hbody : ∀ (cdv : Value) (A : Around) (outer : List Env) (s : Shared) (H : Hp) (vs : List V) (Q : VK) (E : XK), Room k (A.deeper (envOfC qual scope s.heap.objs.size f cdv)) → sp vs H Q E →
      ∃ t, PSs (cxOf CX0 P w K mg base N qual scope f cdv A outer s H E).nox body t ∧ t { nx := fun _ H' => Q .non H', rt := Q } (start N vs) H) : FnOk P w K mg base CX0 (k + 1) f fd ps sp :=
  F.ok S len fun cdv A outer s H vs Q E hr hs => by
    obtain ⟨t, h, q⟩ := hbody cdv A outer s H vs Q E hr hs
    exact ⟨t, h.nox, q⟩

/-- what isinstance asks of an own class -/
structure OwnC (K : PySem.W.Frag) (C : Addr) : Prop where
  cl : Cls K C
  ha : PySem.W.findIn K (.ref C) "__class__" = some (some (.builtin "object.__class__"))
  hn : PySem.W.specialIn K (.builtin "object.__class__") "__get__" = some (some (.builtin "getset_descriptor.__get__"))
  htk : PySem.W.takesIn K (.builtin "object.__class__") = some true
  hm : PySem.W.mroIn K C (.type "object") = some true
  me : PySem.W.kitOne K (.ref C) (.ref C) = some true
theorem OwnC.ty {C : Addr} {H : Hp} {a dx : Addr} {fs : List (Str × V)} (o : OwnC K C) (e : H a = some (.ins C dx fs)) : TyX K H (.ref a) (.ref C) := .base (.ins e o.cl o.ha o.hn o.htk o.hm)
/-- ints and tuples are no spans -/
structure NoC (K : PySem.W.Frag) (C : Addr) : Prop where
  int_ : PySem.W.kitOne K (.type "int") (.ref C) = some false
  tup : PySem.W.kitOne K (.type "tuple") (.ref C) = some false
end
end EN

namespace EN
open PySem L2 PyProof.Rows
section
variable {P : Program} {w : World} {K : PySem.W.Frag} {mg : Str → Option Value} {base : Heap} {f : Addr} {fd : FuncData}
/-- lists and tuples of ints as data -/
theorem dpAll_ints {H : Hp} : ∀ r : List Int, DpAll K H (r.map V.int) (r.map PyData.int)
  | [] => .nil
  | a :: r => .cons (.int a) (dpAll_ints r)
theorem dp_lst {H : Hp} {a : Addr} {r : List Int} (h : SqL K H a (r.map V.int)) : Dp K H (.ref a) (.list (r.map PyData.int)) := .lst h (dpAll_ints r)
theorem dp_tup {H : Hp} {a : Addr} {r : List Int} (h : SqT K H a (r.map V.int)) : Dp K H (.ref a) (.tuple (r.map PyData.int)) := .tup h (dpAll_ints r)
theorem shaped_lst (r : List Int) : SeqAt.shaped (.list (r.map PyData.int)) = true := PySem.W.ke_shaped_ints r
theorem shaped_tup (r : List Int) : SeqAt.shaped (.tuple (r.map PyData.int)) = true := by
  simp [SeqAt.shaped, PyData.canLay0, PyData.depth, PySem.W.ke_canLayAll0, PySem.W.ke_depthAll]
theorem eqvAll_ints : ∀ r s : List Int, PyData.eqvAll (r.map PyData.int) (s.map PyData.int) = decide (r = s)
  | [], [] => by simp [PyData.eqvAll]
  | [], b :: s => by simp [PyData.eqvAll]
  | a :: r, [] => by simp [PyData.eqvAll]
  | a :: r, b :: s => by
    simp only [List.map_cons, PyData.eqvAll, PyData.eqv, eqvAll_ints r s]
    by_cases h : a = b <;> by_cases h' : r = s <;> simp [h, h']
theorem eqv_lst (r s : List Int) : PyData.eqv (.list (r.map PyData.int)) (.list (s.map PyData.int)) = decide (r = s) := by
  simp only [PyData.eqv]; exact eqvAll_ints r s
theorem eqv_tup (r s : List Int) : PyData.eqv (.tuple (r.map PyData.int)) (.tuple (s.map PyData.int)) = decide (r = s) := by
  simp only [PyData.eqv]; exact eqvAll_ints r s
end
end EN

namespace EN
open PySem L2 PyProof.Rows
section
variable {P : Program} {w : World} {K : PySem.W.Frag} {mg : Str → Option Value} {base : Heap} {f : Addr} {fd : FuncData}
abbrev s_check_wholes : Stmt := top 9
abbrev N_check_wholes : List Str := ["values", "value"]
theorem sc_check_wholes : FnScope N_check_wholes ["values"] (defScope s_check_wholes) := ⟨rfl, rfl, rfl, by decide +kernel, rfl, by decide +kernel, by decide +kernel⟩

theorem ok_check_wholes (F : Fun K "check_wholes" "check_wholes" s_check_wholes f fd) (T : Blt mg) (G_is_whole : Has P w K mg base 1 "is_whole" ["value"] spIsWhole) : FnOk P w K mg base CX0 2 f fd ["values"] (spCheckWholes K) := by
  refine F.ok sc_check_wholes (fun vs H Q E h => ?_) (fun cdv A outer s H vs Q E hr h => ?_)
  · obtain ⟨a, r, rfl, _⟩ := h
    rfl
  · obtain ⟨a, r, rfl, hS | hS, hl, k⟩ := h
    · refine ⟨_, (pss_one (ps_if (PW.pt (pw_or (pt_not (pt_val (pe_callB (show CallR _ _ (rIsiT K) from call_isiT) (by rfl) T.isinstance_ (by decide +kernel) (pa_cons (pv 0) (pa_cons (pe_tup (pa_cons (pe_bltn (v := .ty "list") (u := .type "list") (by rfl) T.list_ (by decide +kernel) rfl) (pa_cons (pe_bltn (v := .ty "tuple") (u := .type "tuple") (by rfl) T.tuple_ (by decide +kernel) rfl) pa_nil))) pa_nil))))) (pw_or1 (pt_not (pt_val (pe_callB (show CallR _ _ (rAll K) from cr_all rfl) (by rfl) T.all_ (by decide +kernel) (pa_cons (pe_lc (own := [("value", 1)]) (g := gName 1) (tt := tYes) (by rfl) sc_check_wholes.nd (pi_list (pv 0)) (blkOk_by (own := [("value", 1)]) (N := N_check_wholes) (sc := defScope s_check_wholes) (by decide +kernel)) (fun _ _ _ _ _ => (pg_name (i := 1) sc_check_wholes.nd rfl (by first | exact Or.inl rfl | exact Or.inr rfl))) (fun _ _ _ _ _ => pts_nil) (fun _ _ _ _ _ => (pe_has G_is_whole (hr.mono (by decide)) (pa_cons (pv 1) pa_nil)))) pa_nil)))))))
      (pss_one ps_never)
      pss_nil)), ?_⟩
      refine ⟨_, rfl, (by show 2 ≤ sizeLine; decide), fun tp htp => ?_⟩
      have s1 := same_new (Same.refl H) (.tup [.ty "list", .ty "tuple"]) htp
      refine ⟨.ref a, tp, _, .type "list", [.type "list", .type "tuple"], true, rfl, upd_same, .cons (.ty _) (.cons (.ty _) .nil), tyx_lst (s1.seq hS), kitAny_cons (b := true) (kit_ty (by decide +kernel)) (fun z => nomatch z) (fun _ => rfl), true, rfl, iteF ?_⟩
      refine ⟨_, rfl, a, rfl, ⟨_, s1.seq hS⟩, fun D hD => ?_⟩
      refine ZK.lc_growL (K := K) (a := a) (xs := r.map V.int) (small1000 (by rw [List.length_map]; exact hl)) (fun _ H' => Same H H') (fun i y => y = .bl true) (same_new s1 _ hD) (fun i H' s' => s'.seq hS) ?_ ?_
      · intro i x H1 acc hx s2 hacc hal hR Qn hq
        obtain ⟨_, rfl⟩ := int_at hx
        exact ⟨rfl, _, rfl, _, rfl, hq _ _ rfl hacc (same_but_new s2 (s1.free hD))⟩
      · intro H1 acc s2 hacc hal hR
        have e := ZK.eq_map hal hR
        refine ⟨D, (List.range r.length).map fun _ => true, rfl, SqL.of ?_, _, rfl, ?_⟩
        · rw [hacc, e, List.length_map, List.map_map]
          rfl
        · rw [all_true]
          exact iteF (k _ s2)
    · refine ⟨_, (pss_one (ps_if (PW.pt (pw_or (pt_not (pt_val (pe_callB (show CallR _ _ (rIsiT K) from call_isiT) (by rfl) T.isinstance_ (by decide +kernel) (pa_cons (pv 0) (pa_cons (pe_tup (pa_cons (pe_bltn (v := .ty "list") (u := .type "list") (by rfl) T.list_ (by decide +kernel) rfl) (pa_cons (pe_bltn (v := .ty "tuple") (u := .type "tuple") (by rfl) T.tuple_ (by decide +kernel) rfl) pa_nil))) pa_nil))))) (pw_or1 (pt_not (pt_val (pe_callB (show CallR _ _ (rAll K) from cr_all rfl) (by rfl) T.all_ (by decide +kernel) (pa_cons (pe_lc (own := [("value", 1)]) (g := gName 1) (tt := tYes) (by rfl) sc_check_wholes.nd (pi_tup (pv 0)) (blkOk_by (own := [("value", 1)]) (N := N_check_wholes) (sc := defScope s_check_wholes) (by decide +kernel)) (fun _ _ _ _ _ => (pg_name (i := 1) sc_check_wholes.nd rfl (by first | exact Or.inl rfl | exact Or.inr rfl))) (fun _ _ _ _ _ => pts_nil) (fun _ _ _ _ _ => (pe_has G_is_whole (hr.mono (by decide)) (pa_cons (pv 1) pa_nil)))) pa_nil)))))))
      (pss_one ps_never)
      pss_nil)), ?_⟩
      refine ⟨_, rfl, (by show 2 ≤ sizeLine; decide), fun tp htp => ?_⟩
      have s1 := same_new (Same.refl H) (.tup [.ty "list", .ty "tuple"]) htp
      refine ⟨.ref a, tp, _, .type "tuple", [.type "list", .type "tuple"], true, rfl, upd_same, .cons (.ty _) (.cons (.ty _) .nil), tyx_tup (sqT_same s1 hS), kitAny_cons (b := false) (kit_ty (by decide +kernel)) (fun _ => kitAny_cons (b := true) (kit_ty (by decide +kernel)) (fun z => nomatch z) (fun _ => rfl)) (fun z => nomatch z), true, rfl, iteF ?_⟩
      refine ⟨_, rfl, a, rfl, ⟨_, sqT_same s1 hS⟩, fun D hD => ?_⟩
      refine ZK.lc_growT (K := K) (a := a) (xs := r.map V.int) (small1000 (by rw [List.length_map]; exact hl)) (fun _ H' => Same H H') (fun i y => y = .bl true) (same_new s1 _ hD) (fun i H' s' => sqT_same s' hS) ?_ ?_
      · intro i x H1 acc hx s2 hacc hal hR Qn hq
        obtain ⟨_, rfl⟩ := int_at hx
        exact ⟨rfl, _, rfl, _, rfl, hq _ _ rfl hacc (same_but_new s2 (s1.free hD))⟩
      · intro H1 acc s2 hacc hal hR
        have e := ZK.eq_map hal hR
        refine ⟨D, (List.range r.length).map fun _ => true, rfl, SqL.of ?_, _, rfl, ?_⟩
        · rw [hacc, e, List.length_map, List.map_map]
          rfl
        · rw [all_true]
          exact iteF (k _ s2)
end
end EN

namespace EN
open PySem L2 PyProof.Rows
section
variable {P : Program} {w : World} {K : PySem.W.Frag} {mg : Str → Option Value} {base : Heap} {f : Addr} {fd : FuncData}
abbrev s_check_whole : Stmt := top 7
abbrev N_check_whole : List Str := ["value"]
theorem sc_check_whole : FnScope N_check_whole ["value"] (defScope s_check_whole) := ⟨rfl, rfl, rfl, by decide +kernel, rfl, by decide +kernel, by decide +kernel⟩

theorem ok_check_whole (F : Fun K "check_whole" "check_whole" s_check_whole f fd) (T : Blt mg) (G_is_whole : Has P w K mg base 1 "is_whole" ["value"] spIsWhole) : FnOk P w K mg base CX0 2 f fd ["value"] spCheckWhole := by
  refine F.ok sc_check_whole (fun vs H Q E h => ?_) (fun cdv A outer s H vs Q E hr h => ?_)
  · obtain ⟨i, rfl, _⟩ := h
    rfl
  · obtain ⟨i, rfl, k⟩ := h
    refine ⟨_, (pss_one (ps_if (pt_not (pt_val (pe_has G_is_whole (hr.mono (by decide)) (pa_cons (pv 0) pa_nil))))
      (pss_one ps_never)
      pss_nil)), ?_⟩
    exact ⟨_, rfl, i, rfl, _, rfl, iteF k⟩
end
end EN

namespace EN
open PySem L2 PyProof.Rows
section
variable {P : Program} {w : World} {K : PySem.W.Frag} {mg : Str → Option Value} {base : Heap} {f : Addr} {fd : FuncData}
abbrev s_check_from : Stmt := top 8
abbrev N_check_from : List Str := ["value", "bound"]
theorem sc_check_from : FnScope N_check_from ["value", "bound"] (defScope s_check_from) := ⟨rfl, rfl, rfl, by decide +kernel, rfl, by decide +kernel, by decide +kernel⟩

theorem ok_check_from (F : Fun K "check_from" "check_from" s_check_from f fd) (T : Blt mg) (G_is_whole : Has P w K mg base 1 "is_whole" ["value"] spIsWhole) : FnOk P w K mg base CX0 2 f fd ["value", "bound"] spCheckFrom := by
  refine F.ok sc_check_from (fun vs H Q E h => ?_) (fun cdv A outer s H vs Q E hr h => ?_)
  · obtain ⟨i, b, rfl, _⟩ := h
    rfl
  · obtain ⟨i, b, rfl, hb, k⟩ := h
    refine ⟨_, (pss_one (ps_if (PW.pt (pw_or (pt_not (pt_val (pe_has G_is_whole (hr.mono (by decide)) (pa_cons (pv 0) pa_nil)))) (pw_or1 (pt_cmpR op_lt (pv 0) (pv 1) (nomark _)))))
      (pss_one ps_never)
      pss_nil)), ?_⟩
    refine ⟨_, rfl, i, rfl, _, rfl, iteF ⟨_, rfl, _, rfl, _, _, rfl, rfl, _, rfl, ?_⟩⟩
    refine ite2 (fun h => ?_) (fun _ => k)
    have := of_decide_eq_true h
    omega
end
end EN

namespace EN
open PySem L2 PyProof.Rows
section
variable {P : Program} {w : World} {K : PySem.W.Frag} {mg : Str → Option Value} {base : Heap} {f : Addr} {fd : FuncData}
abbrev s_is_whole : Stmt := top 6
abbrev N_is_whole : List Str := ["value"]
theorem sc_is_whole : FnScope N_is_whole ["value"] (defScope s_is_whole) := ⟨rfl, rfl, rfl, by decide +kernel, rfl, by decide +kernel, by decide +kernel⟩

theorem ok_is_whole (F : Fun K "is_whole" "is_whole" s_is_whole f fd) (T : Blt mg) : FnOk P w K mg base CX0 1 f fd ["value"] spIsWhole := by
  refine F.ok sc_is_whole (fun vs H Q E h => ?_) (fun cdv A outer s H vs Q E hr h => ?_)
  · obtain ⟨i, rfl, _⟩ := h
    rfl
  · obtain ⟨i, rfl, k⟩ := h
    refine ⟨_, (pss_one (ps_ret (pe_and (pe_callB (show CallR _ _ (rIsi K) from call_isi) (by rfl) T.isinstance_ (by decide +kernel) (pa_cons (pv 0) (pa_cons (pe_bltn (v := .ty "int") (u := .type "int") (by rfl) T.int_ (by decide +kernel) rfl) pa_nil))) (pe_one (pe_not (pe_callB (show CallR _ _ (rIsi K) from call_isi) (by rfl) T.isinstance_ (by decide +kernel) (pa_cons (pv 0) (pa_cons (pe_bltn (v := .ty "bool") (u := .type "bool") (by rfl) T.bool_ (by decide +kernel) rfl) pa_nil)))))))), ?_⟩
    refine ⟨_, rfl, .int i, .ty "int", .type "int", .type "int", true, rfl, .ty _, .base (.int _), kit_ty (by decide +kernel), true, rfl, iteT ?_⟩
    refine ⟨_, rfl, .int i, .ty "bool", .type "int", .type "bool", false, rfl, .ty _, .base (.int _), kit_ty (by decide +kernel), false, rfl, k⟩
end
end EN

namespace EN
open PySem L2 PyProof.Rows
section
variable {P : Program} {w : World} {K : PySem.W.Frag} {mg : Str → Option Value} {base : Heap} {f : Addr} {fd : FuncData}
/-! ### sizes -/
/-- a Size at s: its row is the tuple of the ints ms -/
def SizeAt (K : PySem.W.Frag) (C : Addr) (H : Hp) (s : Addr) (ms : List Int) : Prop := ∃ dx t : Addr, H s = some (.ins C dx [("row", .ref t)]) ∧ SqT K H t (ms.map V.int) ∧ ms.length ≤ 1000
theorem SizeAt.same {C : Addr} {H H' : Hp} {s : Addr} {ms : List Int} (h : SizeAt K C H s ms) (e : Same H H') : SizeAt K C H' s ms := by
  obtain ⟨dx, t, h1, h2, h3⟩ := h
  exact ⟨dx, t, e _ _ h1, sqT_same e h2, h3⟩
theorem Pen.size {C : Addr} {H H' : Hp} {p c s : Addr} {ns : List Int} {B : Nat} {ms : List Int} (P : Pen H p c ns B) (e : But p H H') (h : SizeAt K C H s ms) : SizeAt K C H' s ms := by
  obtain ⟨dx, t, h1, h2, h3⟩ := h
  obtain ⟨b, r, z, _⟩ := P.at_
  exact ⟨dx, t, e _ _ h1 (ne_of h1 z (by intro q; cases q)), P.sqT e h2, h3⟩
/-- a size or an integer -/
def NumAt (K : PySem.W.Frag) (C : Addr) (H : Hp) (v : V) (r : List Int) : Prop := (∃ s, v = .ref s ∧ SizeAt K C H s r) ∨ (∃ i : Int, v = .int i ∧ r = [i])
theorem NumAt.same {C : Addr} {H H' : Hp} {v : V} {r : List Int} (h : NumAt K C H v r) (e : Same H H') : NumAt K C H' v r := by
  rcases h with ⟨s, rfl, h⟩ | ⟨i, rfl, rfl⟩
  · exact .inl ⟨s, rfl, h.same e⟩
  · exact .inr ⟨i, rfl, rfl⟩
def spSInit (K : PySem.W.Frag) (C : Addr) : Sp := fun vs H Q _ => ∃ (x dx a : Addr) (r : List Int), vs = [.ref x, .ref a] ∧ H x = some (.ins C dx []) ∧ SeqI K H a r ∧ r.length ≤ 1000 ∧
  ∀ H' : Hp, (∀ b o, H b = some o → b ≠ x → H' b = some o) → SizeAt K C H' x (M.cut r) → Q .non H'
def spRowOfN (K : PySem.W.Frag) (C : Addr) : Sp := fun vs H Q _ => ∃ (v : V) (r : List Int), vs = [v] ∧ NumAt K C H v r ∧ ∀ (t : Addr) (H' : Hp), Same H H' → SqT K H' t (r.map V.int) → Q (.ref t) H'
/-- a new size of two -/
def spS2 (K : PySem.W.Frag) (C : Addr) (op : List Int → List Int → List Int) (ok : List Int → List Int → Prop) : Sp := fun vs H Q _ => ∃ (s : Addr) (v : V) (ms ns : List Int), vs = [.ref s, v] ∧ SizeAt K C H s ms ∧ NumAt K C H v ns ∧ ok ms ns ∧
  ∀ (z : Addr) (H' : Hp), Same H H' → H z = none → SizeAt K C H' z (M.cut (op ms ns)) → Q (.ref z) H'
def okAdd (ms ns : List Int) : Prop := ms.length ≤ 900 ∧ ns.length ≤ 900
def okSub (ms ns : List Int) : Prop := ms.length ≤ 900 ∧ ns.length ≤ 900 ∧ SzA 800000 ns
def okMul (ms ns : List Int) : Prop := ms.length ≤ 16 ∧ ns.length ≤ 16 ∧ SzA 200000 ms ∧ SzA 200000 ns
def okRsub (ms ns : List Int) : Prop := ms.length ≤ 900 ∧ ns.length ≤ 900 ∧ SzA 800000 ms
/-- other - self, by - -/
def rsub (ms ns : List Int) : List Int := M.plus (M.cut (M.times ms (-1))) ns
def spNeg (K : PySem.W.Frag) (C : Addr) : Sp := fun vs H Q _ => ∃ (s : Addr) (ms : List Int), vs = [.ref s] ∧ SizeAt K C H s ms ∧ ms.length ≤ 900 ∧ SzA 800000 ms ∧ ∀ (z : Addr) (H' : Hp), Same H H' → H z = none → SizeAt K C H' z (M.cut (M.times ms (-1))) → Q (.ref z) H'
def spMove (K : PySem.W.Frag) (C : Addr) (sg : Int) : Sp := fun vs H Q _ => ∃ (s : Addr) (ms : List Int) (k : Int), vs = [.ref s, .int k] ∧ SizeAt K C H s ms ∧ ms.length ≤ 16 ∧ SzA 200000 ms ∧ Sz 9000 k ∧ ∀ (z : Addr) (H' : Hp), Same H H' → H z = none → SizeAt K C H' z (M.cut (M.ah ms (sg * k))) → Q (.ref z) H'
def spPow (K : PySem.W.Frag) (C : Addr) : Sp := fun vs H Q _ => ∃ (s : Addr) (ms : List Int) (e : Nat), vs = [.ref s, .int (e : Int)] ∧ SizeAt K C H s ms ∧ ms.length ≤ 4 ∧ SzA 10000 ms ∧ e ≤ 3 ∧ ∀ (z : Addr) (R : List Int) (H' : Hp), Same H H' → H z = none → SizeAt K C H' z (M.cut R) → (∀ n, M.val R n = M.val ms n ^ e) → Q (.ref z) H'
def spSEq (K : PySem.W.Frag) (C : Addr) : Sp := fun vs H Q _ => ∃ (s u : Addr) (ms ns : List Int), vs = [.ref s, .ref u] ∧ SizeAt K C H s ms ∧ SizeAt K C H u ns ∧ Q (.bl (decide (ms = ns))) H
def spSEqI (K : PySem.W.Frag) (C : Addr) : Sp := fun vs H Q _ => ∃ (s : Addr) (i : Int), vs = [.ref s, .int i] ∧ Q (.bl false) H
abbrev s_sinit : Stmt := inClass (top 34) 0
abbrev N_sinit : List Str := ["self", "row"]
theorem sc_sinit : FnScope N_sinit ["self", "row"] (defScope s_sinit) := ⟨rfl, rfl, rfl, by decide +kernel, rfl, by decide +kernel, by decide +kernel⟩

theorem ok_sinit {C : Addr} {dvs : List V} {kws : List (Str × V)} (F : FunD K "__init__" "Size.__init__" (defArgs s_sinit) (defBody s_sinit) (defScope s_sinit) dvs kws f fd) (cl : Cls K C) (nR : NoAttr K C "row") (G_check_wholes : Has P w K mg base 2 "check_wholes" ["values"] (spCheckWholes K)) (G_trimmed : Has P w K mg base 1 "trimmed" ["row"] (spTrim K)) :
    FnOk P w K mg base CX0 3 f fd ["self", "row"] (spSInit K C) := by
  refine okD F sc_sinit (fun vs H Q E h => ?_) (fun cdv A outer s H vs Q E hr h => ?_)
  · obtain ⟨x, dx, a, r, rfl, _⟩ := h
    rfl
  · obtain ⟨x, dx, a, r, rfl, hx, hS, hl, k⟩ := h
    refine ⟨_, (pss_cons (ps_expr (pe_has G_check_wholes (hr.mono (by decide)) (pa_cons (pv 1) pa_nil)))
    (pss_one (ps_fld (pv 0) (pe_has G_trimmed (hr.mono (by decide)) (pa_cons (pv 1) pa_nil)) rfl))), ?_⟩
    refine ⟨_, rfl, a, r, rfl, hS, hl, fun H1 s1 => ?_⟩
    refine ⟨_, rfl, a, r, rfl, SeqI.same s1 hS, hl, fun t H2 s2 ht => ?_⟩
    have hx2 := s2 _ _ (s1 _ _ hx)
    refine ⟨_, rfl, x, C, dx, [], rfl, hx2, cl, nR, (by show 0 < 1000; decide), ?_⟩
    refine k _ (fun b o e n => ?_) ⟨dx, t, upd_same, sqT_upd ht hx2, ?_⟩
    · rw [upd_ne n]
      exact s2 _ _ (s1 _ _ e)
    · exact Nat.le_trans (cut_len r) hl
/-- a new Size is made -/
theorem made {C : Addr} {H1 : Hp} {a : Addr} {r : List Int} {Q : VK} (hS : SeqI K H1 a r) (hl : r.length ≤ 1000) (k : ∀ (z : Addr) (H' : Hp), Same H1 H' → H1 z = none → SizeAt K C H' z (M.cut r) → Q (.ref z) H') :
    ∀ x dx, H1 x = none → H1 dx = none → dx ≠ x → spSInit K C [.ref x, .ref a] (upd (upd H1 dx (.own x)) x (.ins C dx [])) (fun v H2 => v = .non ∧ Q (.ref x) H2) E0 := fun x dx nx nd ne => by
  have s1 : Same H1 (upd (upd H1 dx (.own x)) x (.ins C dx [])) := fun b o e => by
    rw [upd_ne (ne_of_none e nx), upd_ne (ne_of_none e nd)]
    exact e
  refine ⟨x, dx, a, r, rfl, upd_same, SeqI.same s1 hS, hl, fun H2 keep hz => ⟨rfl, k x H2 (fun b o e => keep b o (s1 b o e) (ne_of_none e nx)) nx hz⟩⟩
theorem madeQ {C : Addr} {H1 : Hp} {a x dx : Addr} {r : List Int} (hS : SeqI K H1 a r) (hl : r.length ≤ 1000) (nx : H1 x = none) (nd : H1 dx = none) (ne : dx ≠ x) {Q2 : VK} (k : ∀ H' : Hp, Same H1 H' → SizeAt K C H' x (M.cut r) → Q2 .non H') :
    spSInit K C [.ref x, .ref a] (upd (upd H1 dx (.own x)) x (.ins C dx [])) Q2 E0 := by
  have s1 : Same H1 (upd (upd H1 dx (.own x)) x (.ins C dx [])) := fun b o e => by
    rw [upd_ne (ne_of_none e nx), upd_ne (ne_of_none e nd)]
    exact e
  exact ⟨x, dx, a, r, rfl, upd_same, SeqI.same s1 hS, hl, fun H2 keep hz => k H2 (fun b o e => keep b o (s1 b o e) (ne_of_none e nx)) hz⟩
abbrev s_row_of : Stmt := top 31
abbrev N_row_of : List Str := ["value"]
theorem sc_row_of : FnScope N_row_of ["value"] (defScope s_row_of) := ⟨rfl, rfl, rfl, by decide +kernel, rfl, by decide +kernel, by decide +kernel⟩

theorem ok_row_of {C_Size : Addr} (F : Fun K "row_of" "row_of" s_row_of f fd) (T : Blt mg) (o : OwnC K C_Size) (no : NoC K C_Size) (nR : NoAttr K C_Size "row") (g_Size : mg "Size" = some (.ref C_Size)) (G_is_whole : Has P w K mg base 1 "is_whole" ["value"] spIsWhole) : FnOk P w K mg base CX0 2 f fd ["value"] (spRowOfN K C_Size) := by
  refine F.ok sc_row_of (fun vs H Q E h => ?_) (fun cdv A outer s H vs Q E hr h => ?_)
  · obtain ⟨v, r, rfl, _⟩ := h
    rfl
  · obtain ⟨v, r, rfl, hN, k⟩ := h
    refine ⟨_, (pss_cons (ps_if (pt_val (pe_callB (show CallR _ _ (rIsi K) from call_isi) (by rfl) T.isinstance_ (by decide +kernel) (pa_cons (pv 0) (pa_cons (pe_glob (v := .ref C_Size) (by rfl) g_Size rfl) pa_nil))))
      (pss_one (ps_ret (pe_fld (pv 0) rfl)))
      pss_nil)
    (pss_cons (ps_if (pt_val (pe_has G_is_whole (hr.mono (by decide)) (pa_cons (pv 0) pa_nil)))
      (pss_one (ps_ret (pe_tup (pa_cons (pv 0) pa_nil))))
      pss_nil)
    (pss_one (ps_ret pe_non)))), ?_⟩
    rcases hN with ⟨z, rfl, dx, t, h1, h2, h3⟩ | ⟨i, rfl, rfl⟩
    · refine ⟨_, rfl, .ref z, .ref C_Size, .ref C_Size, .ref C_Size, true, rfl, .own _, o.ty h1, o.me, true, rfl, iteT ?_⟩
      exact ⟨_, rfl, z, C_Size, dx, _, _, rfl, h1, o.cl, nR, look1, k t H (Same.refl H) h2⟩
    · refine ⟨_, rfl, .int i, .ref C_Size, .type "int", .ref C_Size, false, rfl, .own _, .base (.int _), no.int_, false, rfl, iteF ?_⟩
      refine ⟨_, rfl, i, rfl, true, rfl, iteT ?_⟩
      exact ⟨_, rfl, (by show 1 ≤ sizeLine; decide), fun t ht => k t _ (same_new (Same.refl H) _ ht) (SqT.of upd_same)⟩
abbrev s_seq_ : Stmt := inClass (top 34) 5
abbrev N_seq_ : List Str := ["self", "other"]
theorem sc_seq_ : FnScope N_seq_ ["self", "other"] (defScope s_seq_) := ⟨rfl, rfl, rfl, by decide +kernel, rfl, by decide +kernel, by decide +kernel⟩

theorem ok_seq_ {C_Size : Addr} (F : Fun K "__eq__" "Size.__eq__" s_seq_ f fd) (T : Blt mg) (o : OwnC K C_Size) (nR : NoAttr K C_Size "row") (g_Size : mg "Size" = some (.ref C_Size)) : FnOk P w K mg base CX0 1 f fd ["self", "other"] (spSEq K C_Size) := by
  refine F.ok sc_seq_ (fun vs H Q E h => ?_) (fun cdv A outer s H vs Q E hr h => ?_)
  · obtain ⟨_, _, _, _, rfl, _⟩ := h
    rfl
  · obtain ⟨z, u, ms, ns, rfl, ⟨dx, t, h1, h2, h3⟩, ⟨dy, t', g1, g2, g3⟩, k⟩ := h
    refine ⟨_, (pss_one (ps_ret (pe_and (pe_callB (show CallR _ _ (rIsi K) from call_isi) (by rfl) T.isinstance_ (by decide +kernel) (pa_cons (pv 1) (pa_cons (pe_glob (v := .ref C_Size) (by rfl) g_Size rfl) pa_nil))) (pe_one (pe_cmpR (show OpR _ _ (rEqD K) from op_eqD hr.units) (pe_fld (pv 0) rfl) (pe_fld (pv 1) rfl) (nomark _)))))), ?_⟩
    refine ⟨_, rfl, .ref u, .ref C_Size, .ref C_Size, .ref C_Size, true, rfl, .own _, o.ty g1, o.me, true, rfl, iteT ?_⟩
    refine ⟨_, rfl, z, C_Size, dx, _, _, rfl, h1, o.cl, nR, look1, _, rfl, u, C_Size, dy, _, _, rfl, g1, o.cl, nR, look1, ?_⟩
    refine ⟨_, _, dp_tup h2, dp_tup g2, shaped_tup _, shaped_tup _, ?_⟩
    rw [eqv_tup]
    exact k
theorem ok_seqi {C_Size : Addr} (F : Fun K "__eq__" "Size.__eq__" s_seq_ f fd) (T : Blt mg) (o : OwnC K C_Size) (no : NoC K C_Size) (nR : NoAttr K C_Size "row") (g_Size : mg "Size" = some (.ref C_Size)) : FnOk P w K mg base CX0 1 f fd ["self", "other"] (spSEqI K C_Size) := by
  refine F.ok sc_seq_ (fun vs H Q E h => ?_) (fun cdv A outer s H vs Q E hr h => ?_)
  · obtain ⟨_, _, rfl, _⟩ := h
    rfl
  · obtain ⟨z, i, rfl, k⟩ := h
    refine ⟨_, (pss_one (ps_ret (pe_and (pe_callB (show CallR _ _ (rIsi K) from call_isi) (by rfl) T.isinstance_ (by decide +kernel) (pa_cons (pv 1) (pa_cons (pe_glob (v := .ref C_Size) (by rfl) g_Size rfl) pa_nil))) (pe_one (pe_cmpR (show OpR _ _ (rEqD K) from op_eqD hr.units) (pe_fld (pv 0) rfl) (pe_fld (pv 1) rfl) (nomark _)))))), ?_⟩
    exact ⟨_, rfl, .int i, .ref C_Size, .type "int", .ref C_Size, false, rfl, .own _, .base (.int _), no.int_, false, rfl, iteF k⟩
end
end EN

namespace EN
open PySem L2 PyProof.Rows
section
variable {P : Program} {w : World} {K : PySem.W.Frag} {mg : Str → Option Value} {base : Heap} {f : Addr} {fd : FuncData}
open SG
def spSoL (K : PySem.W.Frag) : Sp := fun vs H Q _ => ∃ (a a' : Addr) (r s : List Int) (B : Int), vs = [.ref a, .ref a'] ∧ SeqI K H a r ∧ SeqI K H a' s ∧ r.length ≤ 6 ∧ s.length ≤ 6 ∧ SzA 1900 r ∧ SzA 1900 s ∧ Sz 204 B ∧ 0 ≤ B ∧ FarR (M.cut (M.less r s)) B ∧
  ∀ (l : Addr) (ts : List Tr) (H' : Hp), Same H H' → H l = none → H' l = some (.lst ((ts.map fun t : Tr => t.2.2).map V.int)) → Cov (M.val (M.less r s)) 0 none ts → Alt ts → ts.length ≤ 243 → Q (.ref l) H'
abbrev s_signs_of_less : Stmt := top 33
abbrev N_signs_of_less : List Str := ["row", "other", "low", "high", "sign"]
theorem sc_signs_of_less : FnScope N_signs_of_less ["row", "other"] (defScope s_signs_of_less) := ⟨rfl, rfl, rfl, by decide +kernel, rfl, by decide +kernel, by decide +kernel⟩

theorem ok_signs_of_less (F : Fun K "signs_of_less" "signs_of_less" s_signs_of_less f fd) (T : Blt mg) (G_row_less : Has P w K mg base 3 "row_less" ["row", "other"] (spRowLess K)) (G_row_signs : Has P w K mg base 8 "row_signs" ["row", "start"] (spRowSigns K)) : FnOk P w K mg base CX0 9 f fd ["row", "other"] (spSoL K) := by
  refine F.ok sc_signs_of_less (fun vs H Q E h => ?_) (fun cdv A outer s H vs Q E hr h => ?_)
  · obtain ⟨_, _, _, _, _, rfl, _⟩ := h
    rfl
  · obtain ⟨a, a', r, s', B, rfl, hS, hS', hl, hl', hx, hx', zB, b0, fr, k⟩ := h
    refine ⟨_, (pss_one (ps_ret (pe_lc (own := [("low", 2), ("high", 3), ("sign", 4)]) (g := gTup K 3 (gCons (gName 2) (gCons (gName 3) (gCons (gName 4) gNil)))) (tt := tYes) (by rfl) sc_signs_of_less.nd (pi_list (pe_has G_row_signs (hr.mono (by decide)) (pa_cons (pe_has G_row_less (hr.mono (by decide)) (pa_cons (pv 0) (pa_cons (pv 1) pa_nil))) (pa_cons pe_int pa_nil)))) (blkOk_by (own := [("low", 2), ("high", 3), ("sign", 4)]) (N := N_signs_of_less) (sc := defScope s_signs_of_less) (by decide +kernel)) (fun _ _ _ _ _ => (pg_tup rfl (pgs_cons (pg_name (i := 2) sc_signs_of_less.nd rfl (by first | exact Or.inl rfl | exact Or.inr rfl)) (pgs_cons (pg_name (i := 3) sc_signs_of_less.nd rfl (by first | exact Or.inl rfl | exact Or.inr rfl)) (pgs_cons (pg_name (i := 4) sc_signs_of_less.nd rfl (by first | exact Or.inl rfl | exact Or.inr rfl)) pgs_nil))))) (fun _ _ _ _ _ => pts_nil) (fun _ _ _ _ _ => (pv 4))))), ?_⟩
    refine ⟨_, rfl, _, rfl, a, a', r, s', 1900, rfl, hS, hS', by omega, by omega, hx', by decide, fun l1 H1 s1 nl1 hl1 => ?_⟩
    have ll : (M.less r s').length ≤ 6 := by
      rw [M.less_len]
      omega
    refine ⟨l1, M.less r s', 0, B, rfl, .inl (SqL.of hl1), ll, (hx.less hx').mono (by decide), (by unfold Sz; decide), zB, b0, fr, fun l2 bs ts H2 s2 nl2 hl2 hbs cv al len => ?_⟩
    refine ⟨l2, rfl, ⟨_, SqL.of hl2⟩, fun D hD => ?_⟩
    refine ZK.lc_growL (K := K) (a := l2) (xs := bs.map V.ref) (small1000 (by rw [List.length_map, hbs.1]; omega)) (fun _ H' => Same H2 H') (fun i y => y = .int ((ts.map fun t : Tr => t.2.2).getD i 0)) (same_new (Same.refl _) _ hD) (fun i H' s' => s'.seq (SqL.of hl2)) ?_ ?_
    · intro i x H3 acc hx s3 hacc hal hR Qn hq
      have il : i < ts.length := by
        have := (List.getElem?_eq_some_iff.mp hx).1
        rwa [List.length_map, hbs.1] at this
      obtain ⟨b, t, eb, et, hb⟩ := hbs.get il
      rw [List.getElem?_map, eb] at hx
      cases hx
      refine ⟨b, _, rfl, sqT_same s3 hb, rfl, _, _, rfl, _, _, rfl, _, _, rfl, rfl, rfl, _, rfl, hq _ _ ?_ hacc (same_but_new s3 hD)⟩
      rw [List.getD_eq_getElem?_getD, List.getElem?_map, et]
      rfl
    · intro H3 acc s3 hacc hal hR
      have e := ZK.eq_map hal hR
      refine k D ts H3 ((s1.trans s2).trans s3) ((s1.trans s2).free hD) ?_ cv al len
      rw [hacc, e, List.length_map, hbs.1]
      have := range_ints (ts.map fun t : Tr => t.2.2) fun a => a
      rw [List.length_map] at this
      rw [this, List.map_id']
theorem range_bls (S : List Int) (g : Int → Bool) : ((List.range S.length).map fun i => V.bl (g (S.getD i 0))) = (S.map g).map V.bl := by
  rw [List.map_map]
  refine List.ext_getElem? fun i => ?_
  by_cases h : i < S.length
  · rw [List.getElem?_map, List.getElem?_range h, List.getElem?_map, List.getElem?_eq_getElem h]
    simp [List.getD, List.getElem?_eq_getElem h]
  · rw [List.getElem?_map, List.getElem?_map, List.getElem?_eq_none (by simpa using h), List.getElem?_eq_none (by omega)]
    rfl
/-- self and a size or an integer, compared for every n *-/
def spCmpS (K : PySem.W.Frag) (C : Addr) (rel : Int → Bool) : Sp := fun vs H Q _ => ∃ (s : Addr) (v : V) (ms ns : List Int) (B : Int), vs = [.ref s, v] ∧ SizeAt K C H s ms ∧ NumAt K C H v ns ∧ ms.length ≤ 6 ∧ ns.length ≤ 6 ∧ SzA 1900 ms ∧ SzA 1900 ns ∧ Sz 204 B ∧ 0 ≤ B ∧ FarR (M.cut (M.less ms ns)) B ∧
  ∀ (ts : List Tr) (H' : Hp), Same H H' → Cov (M.val (M.less ms ns)) 0 none ts → Alt ts → Q (.bl (ts.all fun t : Tr => rel t.2.2)) H'
abbrev s_slt : Stmt := inClass (top 34) 6
abbrev N_slt : List Str := ["self", "other", "row", "sign"]
theorem sc_slt : FnScope N_slt ["self", "other"] (defScope s_slt) := ⟨rfl, rfl, rfl, by decide +kernel, rfl, by decide +kernel, by decide +kernel⟩

theorem ok_slt {C_Size : Addr} (F : Fun K "__lt__" "Size.__lt__" s_slt f fd) (T : Blt mg) (cl : Cls K C_Size) (nR : NoAttr K C_Size "row") (G_row_of : Has P w K mg base 2 "row_of" ["value"] (spRowOfN K C_Size)) (G_signs_of_less : Has P w K mg base 9 "signs_of_less" ["row", "other"] (spSoL K)) :
    FnOk P w K mg base CX0 10 f fd ["self", "other"] (spCmpS K C_Size fun x => decide (x < 0)) := by
  refine F.ok sc_slt (fun vs H Q E h => ?_) (fun cdv A outer s H vs Q E hr h => ?_)
  · obtain ⟨_, _, _, _, _, rfl, _⟩ := h
    rfl
  · obtain ⟨z, v, ms, ns, B, rfl, hz, hv, hl, hl', hx, hx', zB, b0, fr, k⟩ := h
    refine ⟨_, (pss_cons (ps_set (i := 2) sc_slt.nd rfl (Or.inl rfl) (pe_has G_row_of (hr.mono (by decide)) (pa_cons (pv 1) pa_nil)))
    (pss_cons (ps_if (pt_cmpR op_isN (pv 2) pe_non (nomark _))
      (pss_one ps_never)
      pss_nil)
    (pss_one (ps_ret (pe_callB (show CallR _ _ (rAll K) from cr_all rfl) (by rfl) T.all_ (by decide +kernel) (pa_cons (pe_lc (own := [("sign", 3)]) (g := gName 3) (tt := tYes) (by rfl) sc_slt.nd (pi_list (pe_has G_signs_of_less (hr.mono (by decide)) (pa_cons (pe_fld (pv 0) rfl) (pa_cons (pv 2) pa_nil)))) (blkOk_by (own := [("sign", 3)]) (N := N_slt) (sc := defScope s_slt) (by decide +kernel)) (fun _ _ _ _ _ => (pg_name (i := 3) sc_slt.nd rfl (by first | exact Or.inl rfl | exact Or.inr rfl))) (fun _ _ _ _ _ => pts_nil) (fun _ _ _ _ _ => (pe_cmpR op_lt (pv 3) pe_int (nomark _)))) pa_nil)))))), ?_⟩
    refine ⟨_, rfl, v, ns, rfl, hv, fun u H1 s1 hu => ?_⟩
    obtain ⟨dx, t, gz, ht, _⟩ := hz.same s1
    refine ⟨_, rfl, rfl, false, rfl, iteF ?_⟩
    refine ⟨_, rfl, z, C_Size, dx, _, _, rfl, gz, cl, nR, look1, _, rfl, t, u, ms, ns, B, rfl, .inr ht, .inr hu, hl, hl', hx, hx', zB, b0, fr, fun l ts H2 s2 nl hl2 cv al len => ?_⟩
    refine ⟨l, rfl, ⟨_, SqL.of hl2⟩, fun D hD => ?_⟩
    refine ZK.lc_growL (K := K) (a := l) (xs := (ts.map fun t : Tr => t.2.2).map V.int) (small1000 (by rw [List.length_map, List.length_map]; omega)) (fun _ H' => Same H2 H') (fun i y => y = .bl (decide ((ts.map fun t : Tr => t.2.2).getD i 0 < 0))) (same_new (Same.refl _) _ hD) (fun i H' s' => s'.seq (SqL.of hl2)) ?_ ?_
    · intro i x H3 acc hx1 s3 hacc hal hR Qn hq
      obtain ⟨_, rfl⟩ := int_at hx1
      exact ⟨rfl, _, rfl, _, _, rfl, rfl, hq _ _ rfl hacc (same_but_new s3 hD)⟩
    · intro H3 acc s3 hacc hal hR
      have e := ZK.eq_map hal hR
      refine ⟨D, (ts.map fun t : Tr => t.2.2).map fun x => decide (x < 0), rfl, SqL.of ?_, ?_⟩
      · rw [hacc, e, List.length_map]
        exact congrArg (fun l => some (HO.lst l)) (range_bls (ts.map fun t : Tr => t.2.2) fun x => decide (x < 0))
      · have q := k ts H3 ((s1.trans s2).trans s3) cv al
        rw [List.map_map, List.all_map]
        exact q
abbrev s_sle : Stmt := inClass (top 34) 7
abbrev N_sle : List Str := ["self", "other", "row", "sign"]
theorem sc_sle : FnScope N_sle ["self", "other"] (defScope s_sle) := ⟨rfl, rfl, rfl, by decide +kernel, rfl, by decide +kernel, by decide +kernel⟩

theorem ok_sle {C_Size : Addr} (F : Fun K "__le__" "Size.__le__" s_sle f fd) (T : Blt mg) (cl : Cls K C_Size) (nR : NoAttr K C_Size "row") (G_row_of : Has P w K mg base 2 "row_of" ["value"] (spRowOfN K C_Size)) (G_signs_of_less : Has P w K mg base 9 "signs_of_less" ["row", "other"] (spSoL K)) :
    FnOk P w K mg base CX0 10 f fd ["self", "other"] (spCmpS K C_Size fun x => decide (x ≤ 0)) := by
  refine F.ok sc_sle (fun vs H Q E h => ?_) (fun cdv A outer s H vs Q E hr h => ?_)
  · obtain ⟨_, _, _, _, _, rfl, _⟩ := h
    rfl
  · obtain ⟨z, v, ms, ns, B, rfl, hz, hv, hl, hl', hx, hx', zB, b0, fr, k⟩ := h
    refine ⟨_, (pss_cons (ps_set (i := 2) sc_sle.nd rfl (Or.inl rfl) (pe_has G_row_of (hr.mono (by decide)) (pa_cons (pv 1) pa_nil)))
    (pss_cons (ps_if (pt_cmpR op_isN (pv 2) pe_non (nomark _))
      (pss_one ps_never)
      pss_nil)
    (pss_one (ps_ret (pe_callB (show CallR _ _ (rAll K) from cr_all rfl) (by rfl) T.all_ (by decide +kernel) (pa_cons (pe_lc (own := [("sign", 3)]) (g := gName 3) (tt := tYes) (by rfl) sc_sle.nd (pi_list (pe_has G_signs_of_less (hr.mono (by decide)) (pa_cons (pe_fld (pv 0) rfl) (pa_cons (pv 2) pa_nil)))) (blkOk_by (own := [("sign", 3)]) (N := N_sle) (sc := defScope s_sle) (by decide +kernel)) (fun _ _ _ _ _ => (pg_name (i := 3) sc_sle.nd rfl (by first | exact Or.inl rfl | exact Or.inr rfl))) (fun _ _ _ _ _ => pts_nil) (fun _ _ _ _ _ => (pe_cmpR op_le (pv 3) pe_int (nomark _)))) pa_nil)))))), ?_⟩
    refine ⟨_, rfl, v, ns, rfl, hv, fun u H1 s1 hu => ?_⟩
    obtain ⟨dx, t, gz, ht, _⟩ := hz.same s1
    refine ⟨_, rfl, rfl, false, rfl, iteF ?_⟩
    refine ⟨_, rfl, z, C_Size, dx, _, _, rfl, gz, cl, nR, look1, _, rfl, t, u, ms, ns, B, rfl, .inr ht, .inr hu, hl, hl', hx, hx', zB, b0, fr, fun l ts H2 s2 nl hl2 cv al len => ?_⟩
    refine ⟨l, rfl, ⟨_, SqL.of hl2⟩, fun D hD => ?_⟩
    refine ZK.lc_growL (K := K) (a := l) (xs := (ts.map fun t : Tr => t.2.2).map V.int) (small1000 (by rw [List.length_map, List.length_map]; omega)) (fun _ H' => Same H2 H') (fun i y => y = .bl (decide ((ts.map fun t : Tr => t.2.2).getD i 0 ≤ 0))) (same_new (Same.refl _) _ hD) (fun i H' s' => s'.seq (SqL.of hl2)) ?_ ?_
    · intro i x H3 acc hx1 s3 hacc hal hR Qn hq
      obtain ⟨_, rfl⟩ := int_at hx1
      exact ⟨rfl, _, rfl, _, _, rfl, rfl, hq _ _ rfl hacc (same_but_new s3 hD)⟩
    · intro H3 acc s3 hacc hal hR
      have e := ZK.eq_map hal hR
      refine ⟨D, (ts.map fun t : Tr => t.2.2).map fun x => decide (x ≤ 0), rfl, SqL.of ?_, ?_⟩
      · rw [hacc, e, List.length_map]
        exact congrArg (fun l => some (HO.lst l)) (range_bls (ts.map fun t : Tr => t.2.2) fun x => decide (x ≤ 0))
      · have q := k ts H3 ((s1.trans s2).trans s3) cv al
        rw [List.map_map, List.all_map]
        exact q
abbrev s_sgt : Stmt := inClass (top 34) 8
abbrev N_sgt : List Str := ["self", "other", "row", "sign"]
theorem sc_sgt : FnScope N_sgt ["self", "other"] (defScope s_sgt) := ⟨rfl, rfl, rfl, by decide +kernel, rfl, by decide +kernel, by decide +kernel⟩

theorem ok_sgt {C_Size : Addr} (F : Fun K "__gt__" "Size.__gt__" s_sgt f fd) (T : Blt mg) (cl : Cls K C_Size) (nR : NoAttr K C_Size "row") (G_row_of : Has P w K mg base 2 "row_of" ["value"] (spRowOfN K C_Size)) (G_signs_of_less : Has P w K mg base 9 "signs_of_less" ["row", "other"] (spSoL K)) :
    FnOk P w K mg base CX0 10 f fd ["self", "other"] (spCmpS K C_Size fun x => decide (x > 0)) := by
  refine F.ok sc_sgt (fun vs H Q E h => ?_) (fun cdv A outer s H vs Q E hr h => ?_)
  · obtain ⟨_, _, _, _, _, rfl, _⟩ := h
    rfl
  · obtain ⟨z, v, ms, ns, B, rfl, hz, hv, hl, hl', hx, hx', zB, b0, fr, k⟩ := h
    refine ⟨_, (pss_cons (ps_set (i := 2) sc_sgt.nd rfl (Or.inl rfl) (pe_has G_row_of (hr.mono (by decide)) (pa_cons (pv 1) pa_nil)))
    (pss_cons (ps_if (pt_cmpR op_isN (pv 2) pe_non (nomark _))
      (pss_one ps_never)
      pss_nil)
    (pss_one (ps_ret (pe_callB (show CallR _ _ (rAll K) from cr_all rfl) (by rfl) T.all_ (by decide +kernel) (pa_cons (pe_lc (own := [("sign", 3)]) (g := gName 3) (tt := tYes) (by rfl) sc_sgt.nd (pi_list (pe_has G_signs_of_less (hr.mono (by decide)) (pa_cons (pe_fld (pv 0) rfl) (pa_cons (pv 2) pa_nil)))) (blkOk_by (own := [("sign", 3)]) (N := N_sgt) (sc := defScope s_sgt) (by decide +kernel)) (fun _ _ _ _ _ => (pg_name (i := 3) sc_sgt.nd rfl (by first | exact Or.inl rfl | exact Or.inr rfl))) (fun _ _ _ _ _ => pts_nil) (fun _ _ _ _ _ => (pe_cmpR op_gt (pv 3) pe_int (nomark _)))) pa_nil)))))), ?_⟩
    refine ⟨_, rfl, v, ns, rfl, hv, fun u H1 s1 hu => ?_⟩
    obtain ⟨dx, t, gz, ht, _⟩ := hz.same s1
    refine ⟨_, rfl, rfl, false, rfl, iteF ?_⟩
    refine ⟨_, rfl, z, C_Size, dx, _, _, rfl, gz, cl, nR, look1, _, rfl, t, u, ms, ns, B, rfl, .inr ht, .inr hu, hl, hl', hx, hx', zB, b0, fr, fun l ts H2 s2 nl hl2 cv al len => ?_⟩
    refine ⟨l, rfl, ⟨_, SqL.of hl2⟩, fun D hD => ?_⟩
    refine ZK.lc_growL (K := K) (a := l) (xs := (ts.map fun t : Tr => t.2.2).map V.int) (small1000 (by rw [List.length_map, List.length_map]; omega)) (fun _ H' => Same H2 H') (fun i y => y = .bl (decide ((ts.map fun t : Tr => t.2.2).getD i 0 > 0))) (same_new (Same.refl _) _ hD) (fun i H' s' => s'.seq (SqL.of hl2)) ?_ ?_
    · intro i x H3 acc hx1 s3 hacc hal hR Qn hq
      obtain ⟨_, rfl⟩ := int_at hx1
      exact ⟨rfl, _, rfl, _, _, rfl, rfl, hq _ _ rfl hacc (same_but_new s3 hD)⟩
    · intro H3 acc s3 hacc hal hR
      have e := ZK.eq_map hal hR
      refine ⟨D, (ts.map fun t : Tr => t.2.2).map fun x => decide (x > 0), rfl, SqL.of ?_, ?_⟩
      · rw [hacc, e, List.length_map]
        exact congrArg (fun l => some (HO.lst l)) (range_bls (ts.map fun t : Tr => t.2.2) fun x => decide (x > 0))
      · have q := k ts H3 ((s1.trans s2).trans s3) cv al
        rw [List.map_map, List.all_map]
        exact q
abbrev s_sge : Stmt := inClass (top 34) 9
abbrev N_sge : List Str := ["self", "other", "row", "sign"]
theorem sc_sge : FnScope N_sge ["self", "other"] (defScope s_sge) := ⟨rfl, rfl, rfl, by decide +kernel, rfl, by decide +kernel, by decide +kernel⟩

theorem ok_sge {C_Size : Addr} (F : Fun K "__ge__" "Size.__ge__" s_sge f fd) (T : Blt mg) (cl : Cls K C_Size) (nR : NoAttr K C_Size "row") (G_row_of : Has P w K mg base 2 "row_of" ["value"] (spRowOfN K C_Size)) (G_signs_of_less : Has P w K mg base 9 "signs_of_less" ["row", "other"] (spSoL K)) :
    FnOk P w K mg base CX0 10 f fd ["self", "other"] (spCmpS K C_Size fun x => decide (x ≥ 0)) := by
  refine F.ok sc_sge (fun vs H Q E h => ?_) (fun cdv A outer s H vs Q E hr h => ?_)
  · obtain ⟨_, _, _, _, _, rfl, _⟩ := h
    rfl
  · obtain ⟨z, v, ms, ns, B, rfl, hz, hv, hl, hl', hx, hx', zB, b0, fr, k⟩ := h
    refine ⟨_, (pss_cons (ps_set (i := 2) sc_sge.nd rfl (Or.inl rfl) (pe_has G_row_of (hr.mono (by decide)) (pa_cons (pv 1) pa_nil)))
    (pss_cons (ps_if (pt_cmpR op_isN (pv 2) pe_non (nomark _))
      (pss_one ps_never)
      pss_nil)
    (pss_one (ps_ret (pe_callB (show CallR _ _ (rAll K) from cr_all rfl) (by rfl) T.all_ (by decide +kernel) (pa_cons (pe_lc (own := [("sign", 3)]) (g := gName 3) (tt := tYes) (by rfl) sc_sge.nd (pi_list (pe_has G_signs_of_less (hr.mono (by decide)) (pa_cons (pe_fld (pv 0) rfl) (pa_cons (pv 2) pa_nil)))) (blkOk_by (own := [("sign", 3)]) (N := N_sge) (sc := defScope s_sge) (by decide +kernel)) (fun _ _ _ _ _ => (pg_name (i := 3) sc_sge.nd rfl (by first | exact Or.inl rfl | exact Or.inr rfl))) (fun _ _ _ _ _ => pts_nil) (fun _ _ _ _ _ => (pe_cmpR op_ge (pv 3) pe_int (nomark _)))) pa_nil)))))), ?_⟩
    refine ⟨_, rfl, v, ns, rfl, hv, fun u H1 s1 hu => ?_⟩
    obtain ⟨dx, t, gz, ht, _⟩ := hz.same s1
    refine ⟨_, rfl, rfl, false, rfl, iteF ?_⟩
    refine ⟨_, rfl, z, C_Size, dx, _, _, rfl, gz, cl, nR, look1, _, rfl, t, u, ms, ns, B, rfl, .inr ht, .inr hu, hl, hl', hx, hx', zB, b0, fr, fun l ts H2 s2 nl hl2 cv al len => ?_⟩
    refine ⟨l, rfl, ⟨_, SqL.of hl2⟩, fun D hD => ?_⟩
    refine ZK.lc_growL (K := K) (a := l) (xs := (ts.map fun t : Tr => t.2.2).map V.int) (small1000 (by rw [List.length_map, List.length_map]; omega)) (fun _ H' => Same H2 H') (fun i y => y = .bl (decide ((ts.map fun t : Tr => t.2.2).getD i 0 ≥ 0))) (same_new (Same.refl _) _ hD) (fun i H' s' => s'.seq (SqL.of hl2)) ?_ ?_
    · intro i x H3 acc hx1 s3 hacc hal hR Qn hq
      obtain ⟨_, rfl⟩ := int_at hx1
      exact ⟨rfl, _, rfl, _, _, rfl, rfl, hq _ _ rfl hacc (same_but_new s3 hD)⟩
    · intro H3 acc s3 hacc hal hR
      have e := ZK.eq_map hal hR
      refine ⟨D, (ts.map fun t : Tr => t.2.2).map fun x => decide (x ≥ 0), rfl, SqL.of ?_, ?_⟩
      · rw [hacc, e, List.length_map]
        exact congrArg (fun l => some (HO.lst l)) (range_bls (ts.map fun t : Tr => t.2.2) fun x => decide (x ≥ 0))
      · have q := k ts H3 ((s1.trans s2).trans s3) cv al
        rw [List.map_map, List.all_map]
        exact q
end
end EN

namespace EO
open PySem PySem.Spec PyProof.Rows L2
/-- what an int's own comparison says of an own instance -/
structure IntCDecl (prog : Program) (w : World) (op : CmpOp) : Prop where
  ex : ∃ (id : String) (B : Builtin), Slot "int" (cmpInfo op).2.1 id ∧ entryFor table id = some B ∧ IntNo prog w B ∧ ∀ (i : Int) (t : Tok) (x : Addr), argsOk id ⟨[.int i t, .ref x], []⟩
theorem dec_clt {prog : Program} {w : World} : IntCDecl prog w .Lt := ⟨_, _, PySem.F.slot_int_lt, PySem.F.entry_int_lt, no_lt, fun _ _ _ => PySem.F.args_int_lt_2 _ _⟩
theorem dec_cle {prog : Program} {w : World} : IntCDecl prog w .LtE := ⟨_, _, PySem.F.slot_int_le, PySem.F.entry_int_le, no_le, fun _ _ _ => PySem.F.args_int_le_2 _ _⟩
theorem dec_cgt {prog : Program} {w : World} : IntCDecl prog w .Gt := ⟨_, _, PySem.F.slot_int_gt, PySem.F.entry_int_gt, no_gt, fun _ _ _ => PySem.F.args_int_gt_2 _ _⟩
theorem dec_cge {prog : Program} {w : World} : IntCDecl prog w .GtE := ⟨_, _, PySem.F.slot_int_ge, PySem.F.entry_int_ge, no_ge, fun _ _ _ => PySem.F.args_int_ge_2 _ _⟩
section
variable {X : Cx} {k : Nat} {C : Addr} {sp : Sp}
/-- i op b, i an int, b of the class C: the class's own mirrored method -/
theorem op_cio {op : CmpOp} (hop : (cmpInfo op).1 ≠ "") (O : OpH X.prog X.w X.K X.mg X.base k C (cmpInfo op).2.2 sp) (D : IntCDecl X.prog X.w op) (sub : PySem.W.subIn X.K (.ref C) (.type "int") = some false) (hr : Room k X.A) : OpR X (compareOp op) (rIO C sp) := by
  intro pins s σ H x y v u Q I rx ry h
  obtain ⟨i, b, dy, gs, rfl, rfl, hb, q⟩ := h
  obtain ⟨t, rfl⟩ := rx
  obtain rfl : u = Value.ref b := ry
  obtain ⟨g, at_, fn, F⟩ := O.ex
  obtain ⟨id, B, slot, ent, no, args⟩ := D.ex
  obtain ⟨oy, oe, L, pl⟩ := StX.insC_at I (.inr ⟨dy, gs, hb⟩)
  exact cmp_of hop (rc_right hr.units0 I.kIn L sub (fun R r => int_cmpno slot ent no (args _ _ _) L pl r) (cmp_own I.kIn L at_ fn (wpAny_mono (run_met (vs := [.int i]) F hr I (.cons ⟨t, rfl⟩ .nil) q) (fun z s1 e => ⟨(got_of _ _ e).1, z, rfl, e⟩) fun _ _ z => z)))
end
end EO

namespace EN
open PySem L2 PyProof.Rows
section
variable {P : Program} {w : World} {K : PySem.W.Frag} {mg : Str → Option Value} {base : Heap} {f : Addr} {fd : FuncData}
open SG
/-- lists of truths as data -/
theorem bl_dps {H : Hp} : ∀ bs : List Bool, DpAll K H (bs.map V.bl) (bs.map PyData.bool)
  | [] => .nil
  | b :: bs => .cons (.bl b) (bl_dps bs)
theorem lay_bls : ∀ bs : List Bool, PyData.canLayAll0 (bs.map PyData.bool) = true ∧ PyData.depthAll (bs.map PyData.bool) = 0 ∧ PyData.eqvAll (bs.map PyData.bool) (bs.map PyData.bool) = true
  | [] => ⟨by simp [PyData.canLayAll0], by simp [PyData.depthAll], by simp [PyData.eqvAll]⟩
  | b :: bs => by
    obtain ⟨h1, h2, h3⟩ := lay_bls bs
    refine ⟨?_, ?_, ?_⟩
    · simp [PyData.canLayAll0, PyData.canLay0, h1]
    · simp [PyData.depthAll, PyData.depth, h2]
    · simp [PyData.eqvAll, PyData.eqv, h3]
theorem shaped_bls (bs : List Bool) : SeqAt.shaped (.list (bs.map PyData.bool)) = true := by
  obtain ⟨h1, h2, _⟩ := lay_bls bs
  unfold SeqAt.shaped
  rw [PyData.canLay0, h1, PyData.depth, decide_eq_true (by omega)]
  rfl
theorem eqv_bls (bs : List Bool) : PyData.eqv (.list (bs.map PyData.bool)) (.list (bs.map PyData.bool)) = true := by
  rw [PyData.eqv]
  exact (lay_bls bs).2.2

theorem alt_flip (sl : Int) (h : sl = 1 ∨ sl = -1) : ∀ ts : List Tr, Alt ts → Alt (ts.map (flipT sl))
  | [], _ => trivial
  | [_], _ => trivial
  | t :: u :: ts, a => by
    refine ⟨fun e => a.1 ?_, alt_flip sl h (u :: ts) a.2⟩
    unfold flipT at e
    dsimp only at e
    rcases h with rfl | rfl <;> omega
/-- the signs of one less other -/
abbrev sgs (ts : List Tr) : List Int := ts.map fun t : Tr => t.2.2
theorem all_sgs (ts : List Tr) (rel : Int → Bool) : (ts.all fun t : Tr => rel t.2.2) = (sgs ts).all rel := by
  rw [List.all_map]
  rfl
/-- the signs the other way around -/
theorem sgs_flip {ms ns : List Int} {ts ss : List Tr} (c : Cov (M.val (M.less ns ms)) 0 none ts) (a : Alt ts) (c2 : Cov (M.val (M.less ms ns)) 0 none ss) (a2 : Alt ss) : sgs ts = (sgs ss).map fun x => -x := by
  have c3 := cov_flip (f := M.val (M.less ms ns)) (g := M.val (M.less ns ms)) (sl := -1) (.inr rfl) (fun n => by rw [M.less_val, M.less_val]; omega) c
  have e := cov_unique c3 c2 (alt_flip (-1) (.inr rfl) ts a) a2
  rw [← e]
  unfold sgs flipT
  rw [List.map_map, List.map_map]
  refine List.map_congr_left fun t _ => ?_
  show t.2.2 = -(t.2.2 * -1)
  omega
def due4 (ss : List Int) : List Bool := [ss.all fun x => decide (x ≤ 0), ss.all fun x => decide (x < 0), ss.all fun x => decide (x ≥ 0), ss.all fun x => decide (x > 0)]
theorem all_neg (ss : List Int) (p q : Int → Bool) (h : ∀ x, p (-x) = q x) : (ss.map fun x => -x).all p = ss.all q := by
  rw [List.all_map]
  congr 1
  funext x
  exact h x
theorem all_le {l : Addr} {ss : List Int} {o v : V} {d : Option V} {H : Hp} {Q : VK} (hS : SqL K H l (ss.map V.int)) (hn : ss.length ≤ 900) (k : ∀ H' : Hp, Same H H' → Q (.bl (ss.all fun x => decide (x ≤ 0))) H') :
    tCB (rAll K) (tCons (tLc (iList K (tVar 2)) (gName 6) tYes (tOp (rI0 fun i j => V.bl (decide (i ≤ j))) (tVar 6) (tC (V.int 0))) [6]) tNil) [some o, some v, some (.ref l), d, none, none, none, none] H Q := by
  refine ⟨_, rfl, l, rfl, ⟨_, hS⟩, fun D hD => ?_⟩
  refine ZK.lc_growL (K := K) (a := l) (xs := ss.map V.int) (small1000 (by rw [List.length_map]; omega)) (fun _ H' => Same H H') (fun i y => y = .bl (decide (ss.getD i 0 ≤ 0))) (same_new (Same.refl _) _ hD) (fun i H' s' => s'.seq hS) ?_ ?_
  · intro i x H3 acc hx1 s3 hacc hal hR Qn hq
    obtain ⟨_, rfl⟩ := int_at hx1
    exact ⟨rfl, _, rfl, _, _, rfl, rfl, hq _ _ rfl hacc (same_but_new s3 hD)⟩
  · intro H3 acc s3 hacc hal hR
    have e := ZK.eq_map hal hR
    refine ⟨D, ss.map fun x => decide (x ≤ 0), rfl, SqL.of ?_, ?_⟩
    · rw [hacc, e, List.length_map]
      exact congrArg (fun l => some (HO.lst l)) (range_bls ss fun x => decide (x ≤ 0))
    · rw [List.all_map]
      exact k H3 s3
theorem all_lt {l : Addr} {ss : List Int} {o v : V} {d : Option V} {H : Hp} {Q : VK} (hS : SqL K H l (ss.map V.int)) (hn : ss.length ≤ 900) (k : ∀ H' : Hp, Same H H' → Q (.bl (ss.all fun x => decide (x < 0))) H') :
    tCB (rAll K) (tCons (tLc (iList K (tVar 2)) (gName 6) tYes (tOp (rI0 fun i j => V.bl (decide (i < j))) (tVar 6) (tC (V.int 0))) [6]) tNil) [some o, some v, some (.ref l), d, none, none, none, none] H Q := by
  refine ⟨_, rfl, l, rfl, ⟨_, hS⟩, fun D hD => ?_⟩
  refine ZK.lc_growL (K := K) (a := l) (xs := ss.map V.int) (small1000 (by rw [List.length_map]; omega)) (fun _ H' => Same H H') (fun i y => y = .bl (decide (ss.getD i 0 < 0))) (same_new (Same.refl _) _ hD) (fun i H' s' => s'.seq hS) ?_ ?_
  · intro i x H3 acc hx1 s3 hacc hal hR Qn hq
    obtain ⟨_, rfl⟩ := int_at hx1
    exact ⟨rfl, _, rfl, _, _, rfl, rfl, hq _ _ rfl hacc (same_but_new s3 hD)⟩
  · intro H3 acc s3 hacc hal hR
    have e := ZK.eq_map hal hR
    refine ⟨D, ss.map fun x => decide (x < 0), rfl, SqL.of ?_, ?_⟩
    · rw [hacc, e, List.length_map]
      exact congrArg (fun l => some (HO.lst l)) (range_bls ss fun x => decide (x < 0))
    · rw [List.all_map]
      exact k H3 s3
theorem all_ge {l : Addr} {ss : List Int} {o v : V} {d : Option V} {H : Hp} {Q : VK} (hS : SqL K H l (ss.map V.int)) (hn : ss.length ≤ 900) (k : ∀ H' : Hp, Same H H' → Q (.bl (ss.all fun x => decide (x ≥ 0))) H') :
    tCB (rAll K) (tCons (tLc (iList K (tVar 2)) (gName 6) tYes (tOp (rI0 fun i j => V.bl (decide (i ≥ j))) (tVar 6) (tC (V.int 0))) [6]) tNil) [some o, some v, some (.ref l), d, none, none, none, none] H Q := by
  refine ⟨_, rfl, l, rfl, ⟨_, hS⟩, fun D hD => ?_⟩
  refine ZK.lc_growL (K := K) (a := l) (xs := ss.map V.int) (small1000 (by rw [List.length_map]; omega)) (fun _ H' => Same H H') (fun i y => y = .bl (decide (ss.getD i 0 ≥ 0))) (same_new (Same.refl _) _ hD) (fun i H' s' => s'.seq hS) ?_ ?_
  · intro i x H3 acc hx1 s3 hacc hal hR Qn hq
    obtain ⟨_, rfl⟩ := int_at hx1
    exact ⟨rfl, _, rfl, _, _, rfl, rfl, hq _ _ rfl hacc (same_but_new s3 hD)⟩
  · intro H3 acc s3 hacc hal hR
    have e := ZK.eq_map hal hR
    refine ⟨D, ss.map fun x => decide (x ≥ 0), rfl, SqL.of ?_, ?_⟩
    · rw [hacc, e, List.length_map]
      exact congrArg (fun l => some (HO.lst l)) (range_bls ss fun x => decide (x ≥ 0))
    · rw [List.all_map]
      exact k H3 s3
theorem all_gt {l : Addr} {ss : List Int} {o v : V} {d : Option V} {H : Hp} {Q : VK} (hS : SqL K H l (ss.map V.int)) (hn : ss.length ≤ 900) (k : ∀ H' : Hp, Same H H' → Q (.bl (ss.all fun x => decide (x > 0))) H') :
    tCB (rAll K) (tCons (tLc (iList K (tVar 2)) (gName 6) tYes (tOp (rI0 fun i j => V.bl (decide (i > j))) (tVar 6) (tC (V.int 0))) [6]) tNil) [some o, some v, some (.ref l), d, none, none, none, none] H Q := by
  refine ⟨_, rfl, l, rfl, ⟨_, hS⟩, fun D hD => ?_⟩
  refine ZK.lc_growL (K := K) (a := l) (xs := ss.map V.int) (small1000 (by rw [List.length_map]; omega)) (fun _ H' => Same H H') (fun i y => y = .bl (decide (ss.getD i 0 > 0))) (same_new (Same.refl _) _ hD) (fun i H' s' => s'.seq hS) ?_ ?_
  · intro i x H3 acc hx1 s3 hacc hal hR Qn hq
    obtain ⟨_, rfl⟩ := int_at hx1
    exact ⟨rfl, _, rfl, _, _, rfl, rfl, hq _ _ rfl hacc (same_but_new s3 hD)⟩
  · intro H3 acc s3 hacc hal hR
    have e := ZK.eq_map hal hR
    refine ⟨D, ss.map fun x => decide (x > 0), rfl, SqL.of ?_, ?_⟩
    · rw [hacc, e, List.length_map]
      exact congrArg (fun l => some (HO.lst l)) (range_bls ss fun x => decide (x > 0))
    · rw [List.all_map]
      exact k H3 s3
/-- what stands around a comparison -/
structure CmpC (ms ns : List Int) (B : Int) : Prop where
  l1 : ms.length ≤ 6
  l2 : ns.length ≤ 6
  z1 : SzA 1900 ms
  z2 : SzA 1900 ns
  zB : Sz 204 B
  b0 : 0 ≤ B
  far : FarR (M.cut (M.less ms ns)) B
theorem cmpQ {C o : Addr} {H : Hp} {v : V} {ms ns : List Int} {B : Int} {ts : List Tr} {rel : Int → Bool} {Q : VK} (ho : SizeAt K C H o ms) (hv : NumAt K C H v ns) (c : CmpC ms ns B) (cv : Cov (M.val (M.less ms ns)) 0 none ts) (al : Alt ts) (k : ∀ H' : Hp, Same H H' → Q (.bl ((sgs ts).all rel)) H') :
    spCmpS K C rel [.ref o, v] H Q E0 := ⟨o, v, ms, ns, B, rfl, ho, hv, c.l1, c.l2, c.z1, c.z2, c.zB, c.b0, c.far, fun ts1 H1 s1 cv1 al1 => by
      rw [cov_unique cv1 cv al1 al, all_sgs]
      exact k H1 s1⟩
/-- .. the other way around -/
theorem cmpB {C o : Addr} {H : Hp} {v : V} {ms ns : List Int} {B : Int} {ts : List Tr} {rel rel' : Int → Bool} {Q : VK} (hr : ∀ x, rel (-x) = rel' x) (ho : SizeAt K C H o ns) (hv : NumAt K C H v ms) (c : CmpC ns ms B) (cv : Cov (M.val (M.less ms ns)) 0 none ts) (al : Alt ts) (k : ∀ H' : Hp, Same H H' → Q (.bl ((sgs ts).all rel')) H') :
    spCmpS K C rel [.ref o, v] H Q E0 := ⟨o, v, ns, ms, B, rfl, ho, hv, c.l1, c.l2, c.z1, c.z2, c.zB, c.b0, c.far, fun ts1 H1 s1 cv1 al1 => by
      rw [all_sgs, sgs_flip cv1 al1 cv al, all_neg _ _ _ hr]
      exact k H1 s1⟩
/-- the four comparisons of two sizes -/
def spComS (K : PySem.W.Frag) (C : Addr) : Sp := fun vs H Q _ => ∃ (o u l : Addr) (ms ns : List Int) (B : Int) (ts : List Tr), vs = [.ref o, .ref u, .ref l] ∧ SizeAt K C H o ms ∧ SizeAt K C H u ns ∧ CmpC ms ns B ∧ CmpC ns ms B ∧ SqL K H l ((sgs ts).map V.int) ∧ Cov (M.val (M.less ms ns)) 0 none ts ∧ Alt ts ∧ ts.length ≤ 900 ∧ ∀ H' : Hp, Same H H' → Q (.bl true) H'
abbrev s_compares : Stmt := top 53
abbrev N_compares : List Str := ["_law_one", "_law_other", "_law_signs", "_law_due", "_law_told", "_law_backward", "_law_sign_here", "_law_truth"]
theorem sc_compares : FnScope N_compares ["_law_one", "_law_other", "_law_signs"] (defScope s_compares) := ⟨rfl, rfl, rfl, by decide +kernel, rfl, by decide +kernel, by decide +kernel⟩

set_option maxHeartbeats 8000000 in
theorem ok_compares_s {C_Size : Addr} (F : Fun K "_law_compares" "_law_compares" s_compares f fd) (T : Blt mg) (G_Size_le : EO.OpH P w K mg base 10 C_Size "__le__" (spCmpS K C_Size fun x => decide (x ≤ 0))) (G_Size_lt : EO.OpH P w K mg base 10 C_Size "__lt__" (spCmpS K C_Size fun x => decide (x < 0)))
    (G_Size_ge : EO.OpH P w K mg base 10 C_Size "__ge__" (spCmpS K C_Size fun x => decide (x ≥ 0))) (G_Size_gt : EO.OpH P w K mg base 10 C_Size "__gt__" (spCmpS K C_Size fun x => decide (x > 0))) :
    FnOk P w K mg base CX0 11 f fd ["_law_one", "_law_other", "_law_signs"] (spComS K C_Size) := by
  refine F.ok sc_compares (fun vs H Q E h => ?_) (fun cdv A outer s H vs Q E hr h => ?_)
  · obtain ⟨_, _, _, _, _, _, _, rfl, _⟩ := h
    rfl
  · obtain ⟨o, u, l, ms, ns, B, ts, rfl, ho, hu, c1, c2, hl, cv, al, len, k⟩ := h
    refine ⟨_, (pss_cons (ps_set (i := 3) sc_compares.nd rfl (Or.inl rfl) (pe_lst (pa_cons (pe_callB (show CallR _ _ (rAll K) from cr_all rfl) (by rfl) T.all_ (by decide +kernel) (pa_cons (pe_lc (own := [("_law_sign_here", 6)]) (g := gName 6) (tt := tYes) (by rfl) sc_compares.nd (pi_list (pv 2)) (blkOk_by (own := [("_law_sign_here", 6)]) (N := N_compares) (sc := defScope s_compares) (by decide +kernel)) (fun _ _ _ _ _ => (pg_name (i := 6) sc_compares.nd rfl (by first | exact Or.inl rfl | exact Or.inr rfl))) (fun _ _ _ _ _ => pts_nil) (fun _ _ _ _ _ => (pe_cmpR op_le (pv 6) pe_int (nomark _)))) pa_nil)) (pa_cons (pe_callB (show CallR _ _ (rAll K) from cr_all rfl) (by rfl) T.all_ (by decide +kernel) (pa_cons (pe_lc (own := [("_law_sign_here", 6)]) (g := gName 6) (tt := tYes) (by rfl) sc_compares.nd (pi_list (pv 2)) (blkOk_by (own := [("_law_sign_here", 6)]) (N := N_compares) (sc := defScope s_compares) (by decide +kernel)) (fun _ _ _ _ _ => (pg_name (i := 6) sc_compares.nd rfl (by first | exact Or.inl rfl | exact Or.inr rfl))) (fun _ _ _ _ _ => pts_nil) (fun _ _ _ _ _ => (pe_cmpR op_lt (pv 6) pe_int (nomark _)))) pa_nil)) pa_nil))))
    (pss_cons (ps_set (i := 3) sc_compares.nd rfl (Or.inl rfl) (pe_op op_cat (pv 3) (pe_lst (pa_cons (pe_callB (show CallR _ _ (rAll K) from cr_all rfl) (by rfl) T.all_ (by decide +kernel) (pa_cons (pe_lc (own := [("_law_sign_here", 6)]) (g := gName 6) (tt := tYes) (by rfl) sc_compares.nd (pi_list (pv 2)) (blkOk_by (own := [("_law_sign_here", 6)]) (N := N_compares) (sc := defScope s_compares) (by decide +kernel)) (fun _ _ _ _ _ => (pg_name (i := 6) sc_compares.nd rfl (by first | exact Or.inl rfl | exact Or.inr rfl))) (fun _ _ _ _ _ => pts_nil) (fun _ _ _ _ _ => (pe_cmpR op_ge (pv 6) pe_int (nomark _)))) pa_nil)) (pa_cons (pe_callB (show CallR _ _ (rAll K) from cr_all rfl) (by rfl) T.all_ (by decide +kernel) (pa_cons (pe_lc (own := [("_law_sign_here", 6)]) (g := gName 6) (tt := tYes) (by rfl) sc_compares.nd (pi_list (pv 2)) (blkOk_by (own := [("_law_sign_here", 6)]) (N := N_compares) (sc := defScope s_compares) (by decide +kernel)) (fun _ _ _ _ _ => (pg_name (i := 6) sc_compares.nd rfl (by first | exact Or.inl rfl | exact Or.inr rfl))) (fun _ _ _ _ _ => pts_nil) (fun _ _ _ _ _ => (pe_cmpR op_gt (pv 6) pe_int (nomark _)))) pa_nil)) pa_nil)))))
    (pss_cons (ps_set (i := 4) sc_compares.nd rfl (Or.inl rfl) (pe_lst (pa_cons (pe_cmpR (EO.op_coo (by decide) G_Size_le (hr.mono (by decide))) (pv 0) (pv 1) (nomark _)) (pa_cons (pe_cmpR (EO.op_coo (by decide) G_Size_lt (hr.mono (by decide))) (pv 0) (pv 1) (nomark _)) (pa_cons (pe_cmpR (EO.op_coo (by decide) G_Size_ge (hr.mono (by decide))) (pv 0) (pv 1) (nomark _)) (pa_cons (pe_cmpR (EO.op_coo (by decide) G_Size_gt (hr.mono (by decide))) (pv 0) (pv 1) (nomark _)) pa_nil))))))
    (pss_cons (ps_set (i := 5) sc_compares.nd rfl (Or.inl rfl) (pe_lst (pa_cons (pe_cmpR (EO.op_coo (by decide) G_Size_ge (hr.mono (by decide))) (pv 1) (pv 0) (nomark _)) (pa_cons (pe_cmpR (EO.op_coo (by decide) G_Size_gt (hr.mono (by decide))) (pv 1) (pv 0) (nomark _)) (pa_cons (pe_cmpR (EO.op_coo (by decide) G_Size_le (hr.mono (by decide))) (pv 1) (pv 0) (nomark _)) (pa_cons (pe_cmpR (EO.op_coo (by decide) G_Size_lt (hr.mono (by decide))) (pv 1) (pv 0) (nomark _)) pa_nil))))))
    (pss_one (ps_ret (pe_and (pe_cmpR (show OpR _ _ (rEqD K) from op_eqD hr.units) (pv 4) (pv 3) (nomark _)) (pe_and (pe_cmpR (show OpR _ _ (rEqD K) from op_eqD hr.units) (pv 5) (pv 3) (nomark _)) (pe_one (pe_callB (show CallR _ _ (rAll K) from cr_all rfl) (by rfl) T.all_ (by decide +kernel) (pa_cons (pe_lc (own := [("_law_truth", 7)]) (g := gName 7) (tt := tYes) (by rfl) sc_compares.nd (pi_list (pe_op op_cat (pv 4) (pv 5))) (blkOk_by (own := [("_law_truth", 7)]) (N := N_compares) (sc := defScope s_compares) (by decide +kernel)) (fun _ _ _ _ _ => (pg_name (i := 7) sc_compares.nd rfl (by first | exact Or.inl rfl | exact Or.inr rfl))) (fun _ _ _ _ _ => pts_nil) (fun _ _ _ _ _ => (pe_callB (show CallR _ _ (rIsi K) from call_isi) (by rfl) T.isinstance_ (by decide +kernel) (pa_cons (pv 7) (pa_cons (pe_bltn (v := .ty "bool") (u := .type "bool") (by rfl) T.bool_ (by decide +kernel) rfl) pa_nil))))) pa_nil))))))))))), ?_⟩
    have ln : (sgs ts).length ≤ 900 := by rw [List.length_map]; exact len
    refine all_le hl ln fun H1 s1 => ?_
    refine all_lt (s1.seq hl) ln fun H2 s2 => ?_
    refine ⟨(by show 2 ≤ sizeLine; decide), fun l3 nl3 => ⟨_, rfl, ?_⟩⟩
    have s3 := same_new (Same.refl H2) (.lst [.bl ((sgs ts).all fun x => decide (x ≤ 0)), .bl ((sgs ts).all fun x => decide (x < 0))]) nl3
    have h3 : (L2.upd H2 l3 (.lst [.bl ((sgs ts).all fun x => decide (x ≤ 0)), .bl ((sgs ts).all fun x => decide (x < 0))])) l3 = some (.lst [.bl ((sgs ts).all fun x => decide (x ≤ 0)), .bl ((sgs ts).all fun x => decide (x < 0))]) := upd_same
    generalize L2.upd H2 l3 (.lst [.bl ((sgs ts).all fun x => decide (x ≤ 0)), .bl ((sgs ts).all fun x => decide (x < 0))]) = H3 at s3 h3 ⊢
    have s13 := (s1.trans s2).trans s3
    refine all_ge (s13.seq hl) ln fun H4 s4 => ?_
    refine all_gt ((s13.trans s4).seq hl) ln fun H5 s5 => ?_
    refine ⟨(by show 2 ≤ sizeLine; decide), fun l6 nl6 => ?_⟩
    have s6 := same_new (s4.trans s5) (.lst [.bl ((sgs ts).all fun x => decide (x ≥ 0)), .bl ((sgs ts).all fun x => decide (x > 0))]) nl6
    refine ⟨l3, l6, _, _, rfl, rfl, s6 _ _ h3, upd_same, (by show 4 ≤ sizeLine; decide), fun l7 nl7 => ?_⟩
    have s7 := s13.trans (same_new s6 (.lst ([.bl ((sgs ts).all fun x => decide (x ≤ 0)), .bl ((sgs ts).all fun x => decide (x < 0))] ++ [.bl ((sgs ts).all fun x => decide (x ≥ 0)), .bl ((sgs ts).all fun x => decide (x > 0))])) nl7)
    have h7 : (L2.upd (L2.upd H5 l6 (.lst [.bl ((sgs ts).all fun x => decide (x ≥ 0)), .bl ((sgs ts).all fun x => decide (x > 0))])) l7 (.lst ([.bl ((sgs ts).all fun x => decide (x ≤ 0)), .bl ((sgs ts).all fun x => decide (x < 0))] ++ [.bl ((sgs ts).all fun x => decide (x ≥ 0)), .bl ((sgs ts).all fun x => decide (x > 0))]))) l7 = some (.lst ((due4 (sgs ts)).map V.bl)) := upd_same
    generalize L2.upd (L2.upd H5 l6 (.lst [.bl ((sgs ts).all fun x => decide (x ≥ 0)), .bl ((sgs ts).all fun x => decide (x > 0))])) l7 (.lst ([.bl ((sgs ts).all fun x => decide (x ≤ 0)), .bl ((sgs ts).all fun x => decide (x < 0))] ++ [.bl ((sgs ts).all fun x => decide (x ≥ 0)), .bl ((sgs ts).all fun x => decide (x > 0))])) = H7 at s7 h7 ⊢
    clear nl7 s6 nl6 s5 s4 s13 h3 s3 nl3 s2 s1
    have ho7 := ho.same s7
    have hu7 := hu.same s7
    obtain ⟨dx, tx, go, _, _⟩ := id ho7
    obtain ⟨dy, ty, gu, _, _⟩ := id hu7
    refine ⟨_, rfl, _, rfl, o, dx, _, u, dy, _, rfl, rfl, go, gu, cmpQ ho7 (.inl ⟨u, rfl, hu7⟩) c1 cv al fun H8 s8 => ?_⟩
    refine ⟨_, rfl, _, rfl, o, dx, _, u, dy, _, rfl, rfl, s8 _ _ go, s8 _ _ gu, cmpQ (ho7.same s8) (.inl ⟨u, rfl, hu7.same s8⟩) c1 cv al fun H9 s9 => ?_⟩
    have s89 := s8.trans s9
    refine ⟨_, rfl, _, rfl, o, dx, _, u, dy, _, rfl, rfl, s89 _ _ go, s89 _ _ gu, cmpQ (ho7.same s89) (.inl ⟨u, rfl, hu7.same s89⟩) c1 cv al fun H10 s10 => ?_⟩
    have s810 := s89.trans s10
    refine ⟨_, rfl, _, rfl, o, dx, _, u, dy, _, rfl, rfl, s810 _ _ go, s810 _ _ gu, cmpQ (ho7.same s810) (.inl ⟨u, rfl, hu7.same s810⟩) c1 cv al fun H11 s11 => ?_⟩
    have s811 := s810.trans s11
    refine ⟨(by show 4 ≤ sizeLine; decide), fun l12 nl12 => ?_⟩
    have s12 := s811.trans (same_new (Same.refl H11) (.lst ((due4 (sgs ts)).map V.bl)) nl12)
    have h12 : (L2.upd H11 l12 (.lst ((due4 (sgs ts)).map V.bl))) l12 = some (.lst ((due4 (sgs ts)).map V.bl)) := upd_same
    have u12 : L2.upd H11 l12 (.lst [.bl ((sgs ts).all fun x => decide (x ≤ 0)), .bl ((sgs ts).all fun x => decide (x < 0)), .bl ((sgs ts).all fun x => decide (x ≥ 0)), .bl ((sgs ts).all fun x => decide (x > 0))]) = L2.upd H11 l12 (.lst ((due4 (sgs ts)).map V.bl)) := rfl
    rw [u12]
    generalize L2.upd H11 l12 (.lst ((due4 (sgs ts)).map V.bl)) = H12 at s12 h12 ⊢
    clear u12 nl12 s811 s810 s89 s8 s9 s10 s11
    replace ho7 := ho7.same s12
    replace hu7 := hu7.same s12
    replace h7 := s12 _ _ h7
    replace s7 := s7.trans s12
    clear s12 go gu
    obtain ⟨dx, tx, go, _, _⟩ := id ho7
    obtain ⟨dy, ty, gu, _, _⟩ := id hu7
    refine ⟨_, rfl, _, rfl, u, dy, _, o, dx, _, rfl, rfl, gu, go, cmpB (rel' := fun x => decide (x ≤ 0)) (fun x => decide_eq_decide.mpr (by omega)) hu7 (.inl ⟨o, rfl, ho7⟩) c2 cv al fun H13 s13 => ?_⟩
    refine ⟨_, rfl, _, rfl, u, dy, _, o, dx, _, rfl, rfl, s13 _ _ gu, s13 _ _ go, cmpB (rel' := fun x => decide (x < 0)) (fun x => decide_eq_decide.mpr (by omega)) (hu7.same s13) (.inl ⟨o, rfl, ho7.same s13⟩) c2 cv al fun H14 s14 => ?_⟩
    have s1314 := s13.trans s14
    refine ⟨_, rfl, _, rfl, u, dy, _, o, dx, _, rfl, rfl, s1314 _ _ gu, s1314 _ _ go, cmpB (rel' := fun x => decide (x ≥ 0)) (fun x => decide_eq_decide.mpr (by omega)) (hu7.same s1314) (.inl ⟨o, rfl, ho7.same s1314⟩) c2 cv al fun H15 s15 => ?_⟩
    have s1315 := s1314.trans s15
    refine ⟨_, rfl, _, rfl, u, dy, _, o, dx, _, rfl, rfl, s1315 _ _ gu, s1315 _ _ go, cmpB (rel' := fun x => decide (x > 0)) (fun x => decide_eq_decide.mpr (by omega)) (hu7.same s1315) (.inl ⟨o, rfl, ho7.same s1315⟩) c2 cv al fun H16 s16 => ?_⟩
    have s1316 := s1315.trans s16
    refine ⟨(by show 4 ≤ sizeLine; decide), fun l17 nl17 => ?_⟩
    have s17 := same_new s1316 (.lst ((due4 (sgs ts)).map V.bl)) nl17
    have h17 : (L2.upd H16 l17 (.lst ((due4 (sgs ts)).map V.bl))) l17 = some (.lst ((due4 (sgs ts)).map V.bl)) := upd_same
    have u17 : L2.upd H16 l17 (.lst [.bl ((sgs ts).all fun x => decide (x ≤ 0)), .bl ((sgs ts).all fun x => decide (x < 0)), .bl ((sgs ts).all fun x => decide (x ≥ 0)), .bl ((sgs ts).all fun x => decide (x > 0))]) = L2.upd H16 l17 (.lst ((due4 (sgs ts)).map V.bl)) := rfl
    rw [u17]
    generalize L2.upd H16 l17 (.lst ((due4 (sgs ts)).map V.bl)) = H17 at s17 h17 ⊢
    have s717 := s7.trans s17
    have g7 := s17 _ _ h7
    have g12 := s17 _ _ h12
    have b4 : (due4 (sgs ts)).length = 4 := rfl
    clear s1316 s17 u17 h7 h12 s7 nl17
    generalize due4 (sgs ts) = bs at b4 g7 g12 h17 ⊢
    refine ⟨_, rfl, _, rfl, _, _, .lst (SqL.of g12) (bl_dps bs), .lst (SqL.of g7) (bl_dps bs), shaped_bls bs, shaped_bls bs, true, by rw [eqv_bls], iteT ?_⟩
    refine ⟨_, rfl, _, rfl, _, _, .lst (SqL.of h17) (bl_dps bs), .lst (SqL.of g7) (bl_dps bs), shaped_bls bs, shaped_bls bs, true, by rw [eqv_bls], iteT ?_⟩
    refine ⟨_, rfl, _, rfl, l12, l17, _, _, rfl, rfl, g12, h17, (by rw [List.length_map, b4]; decide), fun l18 nl18 => ?_⟩
    rw [← List.map_append]
    have s18 := same_new s717 (.lst ((bs ++ bs).map V.bl)) nl18
    have h18 : (L2.upd H17 l18 (.lst ((bs ++ bs).map V.bl))) l18 = some (.lst ((bs ++ bs).map V.bl)) := upd_same
    have b8 : (bs ++ bs).length = 8 := by rw [List.length_append, b4]
    generalize L2.upd H17 l18 (.lst ((bs ++ bs).map V.bl)) = H18 at s18 h18 ⊢
    generalize bs ++ bs = cs at h18 b8 ⊢
    refine ⟨l18, rfl, ⟨_, SqL.of h18⟩, fun D hD => ?_⟩
    refine ZK.lc_growL (K := K) (a := l18) (xs := cs.map V.bl) (small1000 (by rw [List.length_map]; omega)) (fun _ H' => Same H18 H') (fun i y => y = .bl true) (same_new (Same.refl _) _ hD) (fun i H' s' => s'.seq (SqL.of h18)) ?_ ?_
    · intro i x H19 acc hx s19 hacc hal hR Qn hq
      rw [List.getElem?_map] at hx
      obtain ⟨b, _, rfl⟩ := Option.map_eq_some_iff.mp hx
      exact ⟨rfl, _, rfl, .bl b, .ty "bool", .type "bool", .type "bool", true, rfl, .ty _, .base (.bl _), kit_ty (by decide +kernel), hq _ _ rfl hacc (same_but_new s19 hD)⟩
    · intro H19 acc s19 hacc hal hR
      have e := ZK.eq_map hal hR
      refine ⟨D, (List.range (cs.map V.bl).length).map fun _ => true, rfl, SqL.of (by rw [hacc, e, List.map_map]; rfl), ?_⟩
      rw [all_true]
      exact k _ (s18.trans s19)
end
end EN

namespace EN
open PySem L2 PyProof.Rows
section
variable {P : Program} {w : World} {K : PySem.W.Frag} {mg : Str → Option Value} {base : Heap} {f : Addr} {fd : FuncData}
open SG
/-- the four comparisons of a size and an int -/
def spComI (K : PySem.W.Frag) (C : Addr) : Sp := fun vs H Q _ => ∃ (o l : Addr) (i : Int) (ms : List Int) (B : Int) (ts : List Tr), vs = [.ref o, .int i, .ref l] ∧ SizeAt K C H o ms ∧ CmpC ms [i] B ∧ SqL K H l ((sgs ts).map V.int) ∧ Cov (M.val (M.less ms [i])) 0 none ts ∧ Alt ts ∧ ts.length ≤ 900 ∧ ∀ H' : Hp, Same H H' → Q (.bl true) H'
set_option maxHeartbeats 8000000 in
theorem ok_compares_i {C_Size : Addr} (F : Fun K "_law_compares" "_law_compares" s_compares f fd) (T : Blt mg) (si_Size : PySem.W.subIn K (.type "int") (.ref C_Size) = some false) (is_Size : PySem.W.subIn K (.ref C_Size) (.type "int") = some false) (G_Size_le : EO.OpH P w K mg base 10 C_Size "__le__" (spCmpS K C_Size fun x => decide (x ≤ 0))) (G_Size_lt : EO.OpH P w K mg base 10 C_Size "__lt__" (spCmpS K C_Size fun x => decide (x < 0)))
    (G_Size_ge : EO.OpH P w K mg base 10 C_Size "__ge__" (spCmpS K C_Size fun x => decide (x ≥ 0))) (G_Size_gt : EO.OpH P w K mg base 10 C_Size "__gt__" (spCmpS K C_Size fun x => decide (x > 0))) :
    FnOk P w K mg base CX0 11 f fd ["_law_one", "_law_other", "_law_signs"] (spComI K C_Size) := by
  refine F.ok sc_compares (fun vs H Q E h => ?_) (fun cdv A outer s H vs Q E hr h => ?_)
  · obtain ⟨_, _, _, _, _, _, rfl, _⟩ := h
    rfl
  · obtain ⟨o, l, i, ms, B, ts, rfl, ho, c1, hl, cv, al, len, k⟩ := h
    refine ⟨_, (pss_cons (ps_set (i := 3) sc_compares.nd rfl (Or.inl rfl) (pe_lst (pa_cons (pe_callB (show CallR _ _ (rAll K) from cr_all rfl) (by rfl) T.all_ (by decide +kernel) (pa_cons (pe_lc (own := [("_law_sign_here", 6)]) (g := gName 6) (tt := tYes) (by rfl) sc_compares.nd (pi_list (pv 2)) (blkOk_by (own := [("_law_sign_here", 6)]) (N := N_compares) (sc := defScope s_compares) (by decide +kernel)) (fun _ _ _ _ _ => (pg_name (i := 6) sc_compares.nd rfl (by first | exact Or.inl rfl | exact Or.inr rfl))) (fun _ _ _ _ _ => pts_nil) (fun _ _ _ _ _ => (pe_cmpR op_le (pv 6) pe_int (nomark _)))) pa_nil)) (pa_cons (pe_callB (show CallR _ _ (rAll K) from cr_all rfl) (by rfl) T.all_ (by decide +kernel) (pa_cons (pe_lc (own := [("_law_sign_here", 6)]) (g := gName 6) (tt := tYes) (by rfl) sc_compares.nd (pi_list (pv 2)) (blkOk_by (own := [("_law_sign_here", 6)]) (N := N_compares) (sc := defScope s_compares) (by decide +kernel)) (fun _ _ _ _ _ => (pg_name (i := 6) sc_compares.nd rfl (by first | exact Or.inl rfl | exact Or.inr rfl))) (fun _ _ _ _ _ => pts_nil) (fun _ _ _ _ _ => (pe_cmpR op_lt (pv 6) pe_int (nomark _)))) pa_nil)) pa_nil))))
    (pss_cons (ps_set (i := 3) sc_compares.nd rfl (Or.inl rfl) (pe_op op_cat (pv 3) (pe_lst (pa_cons (pe_callB (show CallR _ _ (rAll K) from cr_all rfl) (by rfl) T.all_ (by decide +kernel) (pa_cons (pe_lc (own := [("_law_sign_here", 6)]) (g := gName 6) (tt := tYes) (by rfl) sc_compares.nd (pi_list (pv 2)) (blkOk_by (own := [("_law_sign_here", 6)]) (N := N_compares) (sc := defScope s_compares) (by decide +kernel)) (fun _ _ _ _ _ => (pg_name (i := 6) sc_compares.nd rfl (by first | exact Or.inl rfl | exact Or.inr rfl))) (fun _ _ _ _ _ => pts_nil) (fun _ _ _ _ _ => (pe_cmpR op_ge (pv 6) pe_int (nomark _)))) pa_nil)) (pa_cons (pe_callB (show CallR _ _ (rAll K) from cr_all rfl) (by rfl) T.all_ (by decide +kernel) (pa_cons (pe_lc (own := [("_law_sign_here", 6)]) (g := gName 6) (tt := tYes) (by rfl) sc_compares.nd (pi_list (pv 2)) (blkOk_by (own := [("_law_sign_here", 6)]) (N := N_compares) (sc := defScope s_compares) (by decide +kernel)) (fun _ _ _ _ _ => (pg_name (i := 6) sc_compares.nd rfl (by first | exact Or.inl rfl | exact Or.inr rfl))) (fun _ _ _ _ _ => pts_nil) (fun _ _ _ _ _ => (pe_cmpR op_gt (pv 6) pe_int (nomark _)))) pa_nil)) pa_nil)))))
    (pss_cons (ps_set (i := 4) sc_compares.nd rfl (Or.inl rfl) (pe_lst (pa_cons (pe_cmpR (EO.op_coi (by decide) G_Size_le si_Size (hr.mono (by decide))) (pv 0) (pv 1) (nomark _)) (pa_cons (pe_cmpR (EO.op_coi (by decide) G_Size_lt si_Size (hr.mono (by decide))) (pv 0) (pv 1) (nomark _)) (pa_cons (pe_cmpR (EO.op_coi (by decide) G_Size_ge si_Size (hr.mono (by decide))) (pv 0) (pv 1) (nomark _)) (pa_cons (pe_cmpR (EO.op_coi (by decide) G_Size_gt si_Size (hr.mono (by decide))) (pv 0) (pv 1) (nomark _)) pa_nil))))))
    (pss_cons (ps_set (i := 5) sc_compares.nd rfl (Or.inl rfl) (pe_lst (pa_cons (pe_cmpR (EO.op_cio (by decide) G_Size_le EO.dec_cge is_Size (hr.mono (by decide))) (pv 1) (pv 0) (nomark _)) (pa_cons (pe_cmpR (EO.op_cio (by decide) G_Size_lt EO.dec_cgt is_Size (hr.mono (by decide))) (pv 1) (pv 0) (nomark _)) (pa_cons (pe_cmpR (EO.op_cio (by decide) G_Size_ge EO.dec_cle is_Size (hr.mono (by decide))) (pv 1) (pv 0) (nomark _)) (pa_cons (pe_cmpR (EO.op_cio (by decide) G_Size_gt EO.dec_clt is_Size (hr.mono (by decide))) (pv 1) (pv 0) (nomark _)) pa_nil))))))
    (pss_one (ps_ret (pe_and (pe_cmpR (show OpR _ _ (rEqD K) from op_eqD hr.units) (pv 4) (pv 3) (nomark _)) (pe_and (pe_cmpR (show OpR _ _ (rEqD K) from op_eqD hr.units) (pv 5) (pv 3) (nomark _)) (pe_one (pe_callB (show CallR _ _ (rAll K) from cr_all rfl) (by rfl) T.all_ (by decide +kernel) (pa_cons (pe_lc (own := [("_law_truth", 7)]) (g := gName 7) (tt := tYes) (by rfl) sc_compares.nd (pi_list (pe_op op_cat (pv 4) (pv 5))) (blkOk_by (own := [("_law_truth", 7)]) (N := N_compares) (sc := defScope s_compares) (by decide +kernel)) (fun _ _ _ _ _ => (pg_name (i := 7) sc_compares.nd rfl (by first | exact Or.inl rfl | exact Or.inr rfl))) (fun _ _ _ _ _ => pts_nil) (fun _ _ _ _ _ => (pe_callB (show CallR _ _ (rIsi K) from call_isi) (by rfl) T.isinstance_ (by decide +kernel) (pa_cons (pv 7) (pa_cons (pe_bltn (v := .ty "bool") (u := .type "bool") (by rfl) T.bool_ (by decide +kernel) rfl) pa_nil))))) pa_nil))))))))))), ?_⟩
    have ln : (sgs ts).length ≤ 900 := by rw [List.length_map]; exact len
    refine all_le hl ln fun H1 s1 => ?_
    refine all_lt (s1.seq hl) ln fun H2 s2 => ?_
    refine ⟨(by show 2 ≤ sizeLine; decide), fun l3 nl3 => ⟨_, rfl, ?_⟩⟩
    have s3 := same_new (Same.refl H2) (.lst [.bl ((sgs ts).all fun x => decide (x ≤ 0)), .bl ((sgs ts).all fun x => decide (x < 0))]) nl3
    have h3 : (L2.upd H2 l3 (.lst [.bl ((sgs ts).all fun x => decide (x ≤ 0)), .bl ((sgs ts).all fun x => decide (x < 0))])) l3 = some (.lst [.bl ((sgs ts).all fun x => decide (x ≤ 0)), .bl ((sgs ts).all fun x => decide (x < 0))]) := upd_same
    generalize L2.upd H2 l3 (.lst [.bl ((sgs ts).all fun x => decide (x ≤ 0)), .bl ((sgs ts).all fun x => decide (x < 0))]) = H3 at s3 h3 ⊢
    have s13 := (s1.trans s2).trans s3
    refine all_ge (s13.seq hl) ln fun H4 s4 => ?_
    refine all_gt ((s13.trans s4).seq hl) ln fun H5 s5 => ?_
    refine ⟨(by show 2 ≤ sizeLine; decide), fun l6 nl6 => ?_⟩
    have s6 := same_new (s4.trans s5) (.lst [.bl ((sgs ts).all fun x => decide (x ≥ 0)), .bl ((sgs ts).all fun x => decide (x > 0))]) nl6
    refine ⟨l3, l6, _, _, rfl, rfl, s6 _ _ h3, upd_same, (by show 4 ≤ sizeLine; decide), fun l7 nl7 => ?_⟩
    have s7 := s13.trans (same_new s6 (.lst ([.bl ((sgs ts).all fun x => decide (x ≤ 0)), .bl ((sgs ts).all fun x => decide (x < 0))] ++ [.bl ((sgs ts).all fun x => decide (x ≥ 0)), .bl ((sgs ts).all fun x => decide (x > 0))])) nl7)
    have h7 : (L2.upd (L2.upd H5 l6 (.lst [.bl ((sgs ts).all fun x => decide (x ≥ 0)), .bl ((sgs ts).all fun x => decide (x > 0))])) l7 (.lst ([.bl ((sgs ts).all fun x => decide (x ≤ 0)), .bl ((sgs ts).all fun x => decide (x < 0))] ++ [.bl ((sgs ts).all fun x => decide (x ≥ 0)), .bl ((sgs ts).all fun x => decide (x > 0))]))) l7 = some (.lst ((due4 (sgs ts)).map V.bl)) := upd_same
    generalize L2.upd (L2.upd H5 l6 (.lst [.bl ((sgs ts).all fun x => decide (x ≥ 0)), .bl ((sgs ts).all fun x => decide (x > 0))])) l7 (.lst ([.bl ((sgs ts).all fun x => decide (x ≤ 0)), .bl ((sgs ts).all fun x => decide (x < 0))] ++ [.bl ((sgs ts).all fun x => decide (x ≥ 0)), .bl ((sgs ts).all fun x => decide (x > 0))])) = H7 at s7 h7 ⊢
    clear nl7 s6 nl6 s5 s4 s13 h3 s3 nl3 s2 s1
    have ho7 := ho.same s7
    obtain ⟨dx, tx, go, _, _⟩ := id ho7
    refine ⟨_, rfl, _, rfl, o, dx, _, i, rfl, rfl, go, cmpQ ho7 (.inr ⟨i, rfl, rfl⟩) c1 cv al fun H8 s8 => ?_⟩
    refine ⟨_, rfl, _, rfl, o, dx, _, i, rfl, rfl, s8 _ _ go, cmpQ (ho7.same s8) (.inr ⟨i, rfl, rfl⟩) c1 cv al fun H9 s9 => ?_⟩
    have s89 := s8.trans s9
    refine ⟨_, rfl, _, rfl, o, dx, _, i, rfl, rfl, s89 _ _ go, cmpQ (ho7.same s89) (.inr ⟨i, rfl, rfl⟩) c1 cv al fun H10 s10 => ?_⟩
    have s810 := s89.trans s10
    refine ⟨_, rfl, _, rfl, o, dx, _, i, rfl, rfl, s810 _ _ go, cmpQ (ho7.same s810) (.inr ⟨i, rfl, rfl⟩) c1 cv al fun H11 s11 => ?_⟩
    have s811 := s810.trans s11
    refine ⟨(by show 4 ≤ sizeLine; decide), fun l12 nl12 => ?_⟩
    have s12 := s811.trans (same_new (Same.refl H11) (.lst ((due4 (sgs ts)).map V.bl)) nl12)
    have h12 : (L2.upd H11 l12 (.lst ((due4 (sgs ts)).map V.bl))) l12 = some (.lst ((due4 (sgs ts)).map V.bl)) := upd_same
    have u12 : L2.upd H11 l12 (.lst [.bl ((sgs ts).all fun x => decide (x ≤ 0)), .bl ((sgs ts).all fun x => decide (x < 0)), .bl ((sgs ts).all fun x => decide (x ≥ 0)), .bl ((sgs ts).all fun x => decide (x > 0))]) = L2.upd H11 l12 (.lst ((due4 (sgs ts)).map V.bl)) := rfl
    rw [u12]
    generalize L2.upd H11 l12 (.lst ((due4 (sgs ts)).map V.bl)) = H12 at s12 h12 ⊢
    clear u12 nl12 s811 s810 s89 s8 s9 s10 s11
    replace ho7 := ho7.same s12
    replace h7 := s12 _ _ h7
    replace s7 := s7.trans s12
    clear s12 go
    obtain ⟨dx, tx, go, _, _⟩ := id ho7
    refine ⟨_, rfl, _, rfl, i, o, dx, _, rfl, rfl, go, cmpQ ho7 (.inr ⟨i, rfl, rfl⟩) c1 cv al fun H13 s13 => ?_⟩
    refine ⟨_, rfl, _, rfl, i, o, dx, _, rfl, rfl, s13 _ _ go, cmpQ (ho7.same s13) (.inr ⟨i, rfl, rfl⟩) c1 cv al fun H14 s14 => ?_⟩
    have s1314 := s13.trans s14
    refine ⟨_, rfl, _, rfl, i, o, dx, _, rfl, rfl, s1314 _ _ go, cmpQ (ho7.same s1314) (.inr ⟨i, rfl, rfl⟩) c1 cv al fun H15 s15 => ?_⟩
    have s1315 := s1314.trans s15
    refine ⟨_, rfl, _, rfl, i, o, dx, _, rfl, rfl, s1315 _ _ go, cmpQ (ho7.same s1315) (.inr ⟨i, rfl, rfl⟩) c1 cv al fun H16 s16 => ?_⟩
    have s1316 := s1315.trans s16
    refine ⟨(by show 4 ≤ sizeLine; decide), fun l17 nl17 => ?_⟩
    have s17 := same_new s1316 (.lst ((due4 (sgs ts)).map V.bl)) nl17
    have h17 : (L2.upd H16 l17 (.lst ((due4 (sgs ts)).map V.bl))) l17 = some (.lst ((due4 (sgs ts)).map V.bl)) := upd_same
    have u17 : L2.upd H16 l17 (.lst [.bl ((sgs ts).all fun x => decide (x ≤ 0)), .bl ((sgs ts).all fun x => decide (x < 0)), .bl ((sgs ts).all fun x => decide (x ≥ 0)), .bl ((sgs ts).all fun x => decide (x > 0))]) = L2.upd H16 l17 (.lst ((due4 (sgs ts)).map V.bl)) := rfl
    rw [u17]
    generalize L2.upd H16 l17 (.lst ((due4 (sgs ts)).map V.bl)) = H17 at s17 h17 ⊢
    have s717 := s7.trans s17
    have g7 := s17 _ _ h7
    have g12 := s17 _ _ h12
    have b4 : (due4 (sgs ts)).length = 4 := rfl
    clear s1316 s17 u17 h7 h12 s7 nl17
    generalize due4 (sgs ts) = bs at b4 g7 g12 h17 ⊢
    refine ⟨_, rfl, _, rfl, _, _, .lst (SqL.of g12) (bl_dps bs), .lst (SqL.of g7) (bl_dps bs), shaped_bls bs, shaped_bls bs, true, by rw [eqv_bls], iteT ?_⟩
    refine ⟨_, rfl, _, rfl, _, _, .lst (SqL.of h17) (bl_dps bs), .lst (SqL.of g7) (bl_dps bs), shaped_bls bs, shaped_bls bs, true, by rw [eqv_bls], iteT ?_⟩
    refine ⟨_, rfl, _, rfl, l12, l17, _, _, rfl, rfl, g12, h17, (by rw [List.length_map, b4]; decide), fun l18 nl18 => ?_⟩
    rw [← List.map_append]
    have s18 := same_new s717 (.lst ((bs ++ bs).map V.bl)) nl18
    have h18 : (L2.upd H17 l18 (.lst ((bs ++ bs).map V.bl))) l18 = some (.lst ((bs ++ bs).map V.bl)) := upd_same
    have b8 : (bs ++ bs).length = 8 := by rw [List.length_append, b4]
    generalize L2.upd H17 l18 (.lst ((bs ++ bs).map V.bl)) = H18 at s18 h18 ⊢
    generalize bs ++ bs = cs at h18 b8 ⊢
    refine ⟨l18, rfl, ⟨_, SqL.of h18⟩, fun D hD => ?_⟩
    refine ZK.lc_growL (K := K) (a := l18) (xs := cs.map V.bl) (small1000 (by rw [List.length_map]; omega)) (fun _ H' => Same H18 H') (fun i y => y = .bl true) (same_new (Same.refl _) _ hD) (fun i H' s' => s'.seq (SqL.of h18)) ?_ ?_
    · intro i x H19 acc hx s19 hacc hal hR Qn hq
      rw [List.getElem?_map] at hx
      obtain ⟨b, _, rfl⟩ := Option.map_eq_some_iff.mp hx
      exact ⟨rfl, _, rfl, .bl b, .ty "bool", .type "bool", .type "bool", true, rfl, .ty _, .base (.bl _), kit_ty (by decide +kernel), hq _ _ rfl hacc (same_but_new s19 hD)⟩
    · intro H19 acc s19 hacc hal hR
      have e := ZK.eq_map hal hR
      refine ⟨D, (List.range (cs.map V.bl).length).map fun _ => true, rfl, SqL.of (by rw [hacc, e, List.map_map]; rfl), ?_⟩
      rw [all_true]
      exact k _ (s18.trans s19)
end
end EN

namespace EN
open PySem L2 PyProof.Rows
section
variable {P : Program} {w : World} {K : PySem.W.Frag} {mg : Str → Option Value} {base : Heap} {f : Addr} {fd : FuncData}
def spChoose : Sp := fun vs H Q _ => ∃ (n : Int) (k b : Nat), vs = [.int n, .int (k : Int)] ∧ k ≤ 16 ∧ 6 ≤ b ∧ b ≤ 10000 ∧ Sz b n ∧ ∀ H' : Hp, Same H H' → Q (.int (M.C n k)) H'
def spAt (K : PySem.W.Frag) : Sp := fun vs H Q _ => ∃ (a : Addr) (r : List Int) (n : Int) (b c : Nat), vs = [.ref a, .int n] ∧ SeqI K H a r ∧ r.length ≤ 16 ∧ SzA c r ∧ c ≤ 200000 ∧ 6 ≤ b ∧ b ≤ 10000 ∧ Sz b n ∧ ∀ H' : Hp, Same H H' → Q (.int (M.val r n)) H'
def spCut (K : PySem.W.Frag) : Sp := fun vs H Q _ => ∃ (a : Addr) (r : List Int), vs = [.ref a] ∧ SeqI K H a r ∧ r.length ≤ 1000 ∧ ∀ (t : Addr) (H' : Hp), Same H H' → SqT K H' t ((M.cut r).map V.int) → Q (.ref t) H'
def spRowOf (K : PySem.W.Frag) : Sp := fun vs H Q _ => ∃ (a : Addr) (r : List Int), vs = [.ref a] ∧ SeqI K H a r ∧ r.length ≤ 1000 ∧ ∀ (t : Addr) (H' : Hp), Same H H' → SqT K H' t ((M.cut (M.thr r)).map V.int) → Q (.ref t) H'
theorem facb : ∀ k : Nat, k ≤ 16 → Sz (5 * k + 1) (M.fac k)
  | 0, _ => by show (1 : Int).natAbs < 2 ^ 1; decide
  | k + 1, hk => by
    have h1 := (facb k (by omega)).mul (show Sz 5 ((k : Int) + 1) by unfold Sz; omega)
    exact h1.mono (by omega)
abbrev s_choose : Stmt := top 41
abbrev N_choose : List Str := ["_law_n", "_law_k", "_law_above", "_law_below", "_law_j"]
theorem sc_choose : FnScope N_choose ["_law_n", "_law_k"] (defScope s_choose) := ⟨rfl, rfl, rfl, by decide +kernel, rfl, by decide +kernel, by decide +kernel⟩

theorem ok_choose (F : Fun K "_law_choose" "_law_choose" s_choose f fd) (T : Blt mg) : FnOk P w K mg base CX0 1 f fd ["_law_n", "_law_k"] spChoose := by
  refine F.ok sc_choose (fun vs H Q E h => ?_) (fun cdv A outer s H vs Q E hr h => ?_)
  · obtain ⟨n, k, b, rfl, _⟩ := h
    rfl
  · obtain ⟨n, k, b, rfl, hk, hb, hb2, hn, q2⟩ := h
    refine ⟨_, (pss_cons (ps_asg (pe_tup (pa_cons pe_int (pa_cons pe_int pa_nil))) (pg_tup rfl (pgs_cons (pg_name (i := 2) sc_choose.nd rfl (Or.inl rfl)) (pgs_cons (pg_name (i := 3) sc_choose.nd rfl (Or.inl rfl)) pgs_nil))))
    (pss_cons (ps_for PassesOwn.never rfl (pi_range1 (by rfl) T.range_ (pa_cons (pv 1) pa_nil)) (pg_name (i := 4) sc_choose.nd rfl (Or.inl rfl))
      (pss_one (ps_par (i := 2) (j := 3) (by rfl) sc_choose.nd rfl rfl (by decide) rfl rfl (pa_cons (pe_op op_mulW (pv 2) (pe_op op_sub (pv 0) (pv 4))) (pa_cons (pe_op op_mulW (pv 3) (pe_op op_add (pv 4) pe_int)) pa_nil)) (by rfl))))
    (pss_one (ps_ret (pe_op op_fdivW (pv 2) (pv 3)))))), ?_⟩
    refine ⟨(by show 2 ≤ sizeLine; decide), fun t ht => ⟨t, _, rfl, SqT.of upd_same, rfl, _, _, rfl, _, _, rfl, rfl, ?_⟩⟩
    refine ⟨_, rfl, (k : Int), rfl, by omega, by omega, ?_⟩
    rw [show (k : Int).toNat = k by omega]
    refine for_range (lo := 0) (n := k) (fun i σ H' => ∃ v : Option V, H' = upd H t (.tup [.int 1, .int 1]) ∧ σ = [some (.int n), some (.int (k : Int)), some (.int (M.ff n i)), some (.int (M.fac i)), v]) ⟨none, rfl, rfl⟩ ?_ ?_
    · rintro i σ H' hi ⟨v, rfl, rfl⟩
      have s1 : Sz (b + 1) (n - (0 + (i : Int))) := Sz.sub hn (Sz.mono (a := 6) (by unfold Sz; omega) hb)
      have hbi : (b + 1) * i + 1 + (b + 1) ≤ 999990 := by
        have : (b + 1) * i ≤ 10001 * 16 := Nat.mul_le_mul (by omega) (by omega)
        omega
      have s2 : Sz 6 (0 + (i : Int) + 1) := by unfold Sz; omega
      refine ⟨_, rfl, _, rfl, _, rfl, _, _, rfl, rfl, _, _, rfl, rfl, (ffb hb hn i (by omega)).mulOk s1 hbi, _, rfl, _, rfl, _, _, rfl, rfl, _, _, rfl, rfl, (facb i (by omega)).mulOk s2 (by omega), _, _, rfl, ?_⟩
      refine ⟨some (.int (0 + (i : Int))), rfl, ?_⟩
      rw [Int.zero_add]
      rfl
    · rintro σ H' ⟨v, rfl, rfl⟩
      refine ⟨_, rfl, _, rfl, _, _, rfl, rfl, divW 100 (M.fac_pos k) ((facb k hk).mono (by omega)) (by decide), ?_⟩
      exact q2 _ (same_new (Same.refl H) _ ht)
end
end EN

namespace EN
open PySem L2 PyProof.Rows
section
variable {P : Program} {w : World} {K : PySem.W.Frag} {mg : Str → Option Value} {base : Heap} {f : Addr} {fd : FuncData}
abbrev s_cut : Stmt := top 42
abbrev N_cut : List Str := ["_law_row_here", "_law_many"]
theorem sc_cut : FnScope N_cut ["_law_row_here"] (defScope s_cut) := ⟨rfl, rfl, rfl, by decide +kernel, rfl, by decide +kernel, by decide +kernel⟩

theorem ok_cut (F : Fun K "_law_cut" "_law_cut" s_cut f fd) (T : Blt mg) : FnOk P w K mg base CX0 1 f fd ["_law_row_here"] (spCut K) := by
  refine F.ok sc_cut (fun vs H Q E h => ?_) (fun cdv A outer s H vs Q E hr h => ?_)
  · obtain ⟨a, r, rfl, _⟩ := h
    rfl
  · obtain ⟨a, r, rfl, hS, hl, q⟩ := h
    refine ⟨_, (pss_cons (ps_set (i := 1) sc_cut.nd rfl (Or.inl rfl) (pe_callB (show CallR _ _ (rLenQ K) from c_len) (by rfl) T.len_ (by decide +kernel) (pa_cons (pv 0) pa_nil)))
    (pss_cons (ps_while PassesOwn.never (PW.pt (pw_and (pt_cmpR op_gt (pv 1) pe_int (nomark _)) (pw_and1 (pt_cmpR op_eq (pe_ix (show IxR _ (rIx K) from ix_seq) (pv 0) (pe_op op_sub (pv 1) pe_int) (fun _ _ => rfl)) pe_int (nomark _)))))
      (pss_one (ps_set (i := 1) sc_cut.nd rfl (Or.inl rfl) (pe_op op_sub (pv 1) pe_int))))
    (pss_one (ps_ret (pe_callTy (show CallR _ _ (rTupQ K) from c_tuple) (by rfl) T.tuple_ (by decide +kernel) (pa_cons (pe_slice (show SlR _ (ZK.rSlS K) from ZK.sl_any) (pv 0) po_none (po_some (pv 1))) pa_nil)))))), ?_⟩
    refine ⟨_, rfl, a, _, rfl, hS, ?_⟩
    rw [List.length_map]
    let W : Nat → L2.St → Hp → Prop := fun n σ H' => H' = H ∧ n ≤ r.length ∧ σ = [some (.ref a), some (.int (n : Int))] ∧ M.cutN r n = M.cutN r r.length
    refine ⟨W, ⟨_, rfl, Nat.le_refl _, rfl, rfl⟩, ?_⟩
    rintro n σ H' ⟨rfl, hn, rfl, hc⟩
    have out : M.cutN r r.length = n → tRet (tCB (rTupQ K) (tCons (tSl (ZK.rSlS K) (tVar 0) tNoPart (tPart (tVar 1))) tNil)) { nx := fun _ H' => Q .non H', rt := Q } [some (.ref a), some (.int (n : Int))] H' := fun e => by
      obtain ⟨ka, hk⟩ := ZK.kindOf hS
      refine ⟨_, rfl, _, rfl, _, rfl, ZK.slS hk fun p H1 s1 hp => tupQS hp fun t H2 s2 ht => ?_⟩
      refine q t H2 (s1.trans s2) ?_
      rw [cut_take n hn] at ht
      unfold M.cut
      rw [e]
      exact ht
    refine ⟨_, rfl, _, _, rfl, rfl, _, rfl, ?_⟩
    refine ite2 (fun h1 => ?_) (fun h1 => ?_)
    · have h2 : 0 < (n : Int) := of_decide_eq_true h1
      obtain ⟨e, rfl⟩ : ∃ e, n = e + 1 := ⟨n - 1, by omega⟩
      obtain ⟨g1, g2⟩ := get_int (r := r) (e := e) (by omega)
      refine ⟨_, rfl, _, rfl, _, _, rfl, rfl, ixS hS (at_of (by omega) g1) ⟨rfl, _, rfl, ?_⟩⟩
      refine ite2 (fun h3 => ?_) (fun h3 => ?_)
      · have h4 : r.getD e 0 = 0 := V.int.inj (of_decide_eq_true h3)
        refine ⟨fun σ' H'' => ∃ n', n' < e + 1 ∧ W n' σ' H'', fun σ' H' h => h, ?_⟩
        refine ⟨_, rfl, _, _, rfl, rfl, e, Nat.lt_succ_self e, rfl, by omega, ?_, ?_⟩
        · show [some (V.ref a), some (V.int (((e + 1 : Nat) : Int) - 1))] = _
          rw [show ((e + 1 : Nat) : Int) - 1 = (e : Int) by omega]
        · rw [← hc, M.cutN_zero r e (by rw [g2, h4])]
      · refine out ?_
        rw [← hc]
        refine M.cutN_stop r e fun z => h3 (decide_eq_true ?_)
        rw [g2] at z
        rw [Option.some.inj z]
    · obtain rfl : n = 0 := by
        have : ¬ (0 < (n : Int)) := fun z => h1 (decide_eq_true z)
        omega
      exact out hc.symm
abbrev s_lrowof : Stmt := top 43
abbrev N_lrowof : List Str := ["_law_amounts", "_law_rest", "_law_found", "_law_k"]
theorem sc_lrowof : FnScope N_lrowof ["_law_amounts"] (defScope s_lrowof) := ⟨rfl, rfl, rfl, by decide +kernel, rfl, by decide +kernel, by decide +kernel⟩

theorem ok_lrowof (F : Fun K "_law_row_of" "_law_row_of" s_lrowof f fd) (T : Blt mg) (G_cut : Has P w K mg base 1 "_law_cut" ["_law_row_here"] (spCut K)) : FnOk P w K mg base CX0 2 f fd ["_law_amounts"] (spRowOf K) := by
  refine F.ok sc_lrowof (fun vs H Q E h => ?_) (fun cdv A outer s H vs Q E hr h => ?_)
  · obtain ⟨a, r, rfl, _⟩ := h
    rfl
  · obtain ⟨a, r, rfl, hS, hl, q⟩ := h
    refine ⟨_, (pss_cons (ps_asg (pe_tup (pa_cons (pe_callTy (show CallR _ _ (rListQ K) from c_list) (by rfl) T.list_ (by decide +kernel) (pa_cons (pv 0) pa_nil)) (pa_cons (pe_lst pa_nil) pa_nil))) (pg_tup rfl (pgs_cons (pg_name (i := 1) sc_lrowof.nd rfl (Or.inr rfl)) (pgs_cons (pg_name (i := 2) sc_lrowof.nd rfl (Or.inl rfl)) pgs_nil))))
    (pss_cons (ps_while PassesOwn.never (pt_cmpR (show OpR _ _ (rNeD K) from op_neD hr.units) (pv 1) (pe_lst pa_nil) (nomark _))
      (pss_cons (ps_expr (pe_bm PySem.F.plainAttrs_list PySem.F.slot_list_append PySem.F.type_list_append mt_append (pv 2) (pa_cons (pe_ix (show IxR _ (rIxL K) from ix_list) (pv 1) pe_int (fun _ _ => rfl)) pa_nil)))
      (pss_one (ps_set (i := 1) sc_lrowof.nd rfl (Or.inr rfl) (pe_lc (own := [("_law_k", 3)]) (g := gName 3) (tt := tYes) (by rfl) sc_lrowof.nd (pi_range1 (by rfl) T.range_ (pa_cons (pe_op op_sub (pe_callB (show CallR _ _ (rLenQ K) from c_len) (by rfl) T.len_ (by decide +kernel) (pa_cons (pv 1) pa_nil)) pe_int) pa_nil)) (blkOk_by (own := [("_law_k", 3)]) (N := N_lrowof) (sc := defScope s_lrowof) (by decide +kernel)) (fun _ _ _ _ _ => (pg_name (i := 3) sc_lrowof.nd rfl (by first | exact Or.inl rfl | exact Or.inr rfl))) (fun _ _ _ _ _ => pts_nil) (fun _ _ _ _ _ => (pe_op op_sub (pe_ix (show IxR _ (rIxL K) from ix_list) (pv 1) (pe_op op_add (pv 3) pe_int) (fun _ _ => rfl)) (pe_ix (show IxR _ (rIxL K) from ix_list) (pv 1) (pv 3) (fun _ _ => rfl)))))))))
    (pss_one (ps_ret (pe_has G_cut (hr.mono (by decide)) (pa_cons (pv 2) pa_nil)))))), ?_⟩
    refine ⟨_, rfl, a, _, rfl, hS, fun l hll => ⟨(by show 0 ≤ sizeLine; decide), fun d hd => ⟨(by show 2 ≤ sizeLine; decide), fun t ht => ?_⟩⟩⟩
    refine ⟨t, _, rfl, SqT.of upd_same, rfl, _, _, rfl, _, _, rfl, rfl, ?_⟩
    have nld : l ≠ d := ne_of_none upd_same hd
    have ntd : d ≠ t := ne_of_none upd_same ht
    have nlt : l ≠ t := ne_of_none (by rw [upd_ne nld]; exact upd_same) ht
    have hd0 : H d = none := (same_new (Same.refl H) _ hll).free hd
    let W : Nat → L2.St → Hp → Prop := fun n σ H' => ∃ (l' : Addr) (cur fnd : List Int), σ = [some (.ref a), some (.ref l'), some (.ref d), none] ∧ n = cur.length ∧ H' l' = some (.lst (cur.map V.int)) ∧ H' d = some (.lst (fnd.map V.int)) ∧ l' ≠ d ∧
      fnd ++ M.thr cur = M.thr r ∧ Same H H' ∧ cur.length + fnd.length ≤ 1000
    refine ⟨W, ⟨_, l, r, [], rfl, rfl, by rw [upd_ne nlt, upd_ne nld, upd_same], by rw [upd_ne ntd, upd_same]; rfl, nld, rfl, same_new (same_new (same_new (Same.refl H) _ hll) _ hd) _ ht, by simpa using hl⟩, ?_⟩
    rintro n σ H' ⟨l', cur, fnd, rfl, rfl, h1, h2, ne, hthr, sm, hlen⟩
    refine ⟨_, rfl, (by show 0 ≤ sizeLine; decide), fun e he => ?_⟩
    have sme : Same H' (upd H' e (.lst [])) := same_new (Same.refl _) _ he
    refine ⟨.list (cur.map PyData.int), .list (([] : List Int).map PyData.int), dp_lst (sme.seq (SqL.of h1)), dp_lst (SqL.of upd_same), shaped_lst _, shaped_lst _, _, rfl, ?_⟩
    rw [eqv_lst]
    have h1e := sme _ _ h1
    have h2e := sme _ _ h2
    have smE := sm.trans sme
    generalize upd H' e (.lst []) = H1 at h1e h2e smE
    cases cur with
    | nil =>
      refine iteF ?_
      refine ⟨_, rfl, d, fnd, rfl, .inl (SqL.of h2e), by simpa using hlen, fun t H2 s2 hres => ?_⟩
      rw [M.thr_nil, List.append_nil] at hthr
      rw [hthr] at hres
      exact q t H2 (smE.trans s2) hres
    | cons x xs =>
      refine iteT ?_
      refine ⟨fun σ' H'' => ∃ n', n' < (x :: xs).length ∧ W n' σ' H'', fun σ' H' h => h, ?_⟩
      refine ⟨_, rfl, .inl ⟨rfl, _, .inl (.inl h2e)⟩, _, rfl, l', _, 0, .int x, rfl, rfl, SqL.of h1e, at_of (j := 0) rfl rfl, d, _, _, rfl, rfl, h2e, ?_, ?_⟩
      · rw [List.length_map]
        exact small1000 (by omega)
      have h3 : (upd H1 d (.lst (fnd.map V.int ++ [.int x]))) l' = some (.lst ((x :: xs).map V.int)) := by rw [upd_ne ne]; exact h1e
      have h4 : (upd H1 d (.lst (fnd.map V.int ++ [.int x]))) d = some (.lst ((fnd ++ [x]).map V.int)) := by rw [upd_same, List.map_append]; rfl
      have sm4 : Same H (upd H1 d (.lst (fnd.map V.int ++ [.int x]))) := same_but_new smE hd0
      generalize upd H1 d (.lst (fnd.map V.int ++ [.int x])) = H2 at h3 h4 sm4 ⊢
      refine ⟨_, rfl, l', _, rfl, .inl (SqL.of h3), _, _, rfl, rfl, (xs.length : Int), ?_, by omega, ?_, fun D hD => ?_⟩
      · rw [List.length_map, List.length_cons]
        exact congrArg (fun z => [V.int z]) (show ((xs.length + 1 : Nat) : Int) - 1 = (xs.length : Int) by omega)
      · simp only [List.length_cons] at hlen
        omega
      rw [show (xs.length : Int).toNat = xs.length by omega]
      refine ZK.lc_growR xs.length (small1000 (by simp only [List.length_cons] at hlen; omega)) (fun _ H' => Same H2 H') (fun i y => y = .int ((x :: xs).getD (i + 1) 0 - (x :: xs).getD i 0)) (same_new (Same.refl _) _ hD) ?_ ?_
      · intro i H3 acc hi s3 hacc hal hR Qn hq
        have g0 := (get_int (r := x :: xs) (e := i) (by rw [List.length_cons]; omega)).1
        have g1 := (get_int (r := x :: xs) (e := i + 1) (by rw [List.length_cons]; omega)).1
        refine ⟨rfl, _, rfl, _, rfl, _, _, rfl, rfl, l', _, _, _, rfl, rfl, SqL.of (s3 _ _ h3), at_of (by omega) g1, _, rfl, _, rfl, l', _, _, _, rfl, rfl, SqL.of (s3 _ _ h3), at_of (by omega) g0, _, _, rfl, rfl, ?_⟩
        exact hq _ _ rfl hacc (same_but_new s3 hD)
      · intro H3 acc s3 hacc hal hR
        have e := ZK.eq_map hal hR
        have hdiff := M.diffs_eq (x :: xs)
        rw [show (x :: xs).length - 1 = xs.length by simp] at hdiff
        refine ⟨xs.length, by simp, D, M.diffs (x :: xs), fnd ++ [x], rfl, by rw [M.diffs_len]; simp, ?_, s3 _ _ h4, (ne_of_none h4 hD).symm, ?_, sm4.trans s3, ?_⟩
        · rw [hacc, e, hdiff, List.map_map]
          rfl
        · rw [← hthr, M.thr_cons, List.append_assoc]
          rfl
        · rw [M.diffs_len, List.length_append]
          simp only [List.length_cons, List.length_nil] at hlen ⊢
          omega
end
end EN

/-! a number times factors with known roots -/
namespace EN.SG
open M
structure Thing where
  A : Int
  fs : List (Int × Int)
  R : Int
  m : Nat
def lin (p : Int × Int) (n : Int) : Int := p.1 * n - p.2
def Thing.at (t : Thing) (n : Int) : Int := t.fs.foldl (fun v p => v * lin p n) (t.A * C (n - t.R) t.m)
/-- the places where the sign may change -/
def Thing.seams (t : Thing) (lo : Int) : List Int := t.fs.foldl (fun l p => l ++ [p.2 / p.1, p.2 / p.1 + 1]) [lo, t.R, t.R + t.m]
structure Thing.Ok (t : Thing) : Prop where
  m2 : t.m ≤ 2
  fs2 : t.fs.length ≤ 2
  pos : ∀ p ∈ t.fs, 1 ≤ p.1
/-! ### signs -/
theorem sgn_mul (x y : Int) : sgn (x * y) = sgn x * sgn y := by
  rcases sgn_cases x with ⟨h1, e1⟩ | ⟨h1, e1⟩ | ⟨h1, e1⟩ <;> rcases sgn_cases y with ⟨h2, e2⟩ | ⟨h2, e2⟩ | ⟨h2, e2⟩
  · rw [e1, e2, sgn_pos (Int.mul_pos_of_neg_of_neg h1 h2)]; rfl
  · rw [h2, Int.mul_zero, e1]; rfl
  · rw [e1, e2, sgn_neg (Int.mul_neg_of_neg_of_pos h1 h2)]; rfl
  · rw [h1, Int.zero_mul]; simp [sgn]
  · rw [h1, Int.zero_mul]; simp [sgn]
  · rw [h1, Int.zero_mul]; simp [sgn]
  · rw [e1, e2, sgn_neg (Int.mul_neg_of_pos_of_neg h1 h2)]; rfl
  · rw [h2, Int.mul_zero, e1]; rfl
  · rw [e1, e2, sgn_pos (Int.mul_pos h1 h2)]; rfl
/-- no seam z lies behind p up to n -/
def Clear (z p n : Int) : Prop := ¬ (p < z ∧ z ≤ n)
theorem lin_sgn {q : Int × Int} (hq : 1 ≤ q.1) {p n : Int} (pn : p ≤ n) (c1 : Clear (q.2 / q.1) p n) (c2 : Clear (q.2 / q.1 + 1) p n) : sgn (lin q n) = sgn (lin q p) := by
  obtain ⟨s, c⟩ := q
  dsimp only at hq c1 c2
  unfold lin
  dsimp only
  have h1 : s * (c / s) ≤ c := Int.mul_ediv_self_le (by omega)
  have h2 : c < s * (c / s) + s := Int.lt_mul_ediv_self_add (by omega)
  generalize c / s = z at h1 h2 c1 c2
  unfold Clear at c1 c2
  have mono : ∀ a b : Int, a ≤ b → s * a ≤ s * b := fun a b h => Int.mul_le_mul_of_nonneg_left h (by omega)
  by_cases e : p ≤ z
  · by_cases e2 : p = z
    · have : n = z := by omega
      rw [this, e2]
    · -- both below z
      have a1 : n ≤ z - 1 := by omega
      have a2 := mono n (z - 1) a1
      have a3 := mono p (z - 1) (by omega)
      have a4 : s * (z - 1) = s * z - s := by rw [Int.mul_sub, Int.mul_one]
      rw [sgn_neg (by omega), sgn_neg (by omega)]
  · have a2 := mono (z + 1) n (by omega)
    have a3 := mono (z + 1) p (by omega)
    have a4 : s * (z + 1) = s * z + s := by rw [Int.mul_add, Int.mul_one]
    rw [sgn_pos (by omega), sgn_pos (by omega)]
theorem C_one (n : Int) : C n 1 = n := by
  have := C_rec n 0
  rw [C_zero] at this
  simpa using this
theorem C_two (n : Int) : C n 2 * 2 = n * (n - 1) := by
  have := C_rec n 1
  rw [C_one] at this
  simpa using this
theorem C_sgn {m : Nat} (hm : m ≤ 2) {R p n : Int} (pn : p ≤ n) (c1 : Clear R p n) (c2 : Clear (R + m) p n) : sgn (C (n - R) m) = sgn (C (p - R) m) := by
  unfold Clear at c1 c2
  match m, hm with
  | 0, _ => rw [C_zero, C_zero]
  | 1, _ =>
    rw [C_one, C_one]
    by_cases e : p < R
    · rw [sgn_neg (by omega), sgn_neg (by omega)]
    · by_cases e2 : p = R
      · have : n = R := by omega
        rw [this, e2]
      · rw [sgn_pos (by omega), sgn_pos (by omega)]
  | 2, _ =>
    have two : ∀ x : Int, sgn (C x 2) = sgn (x * (x - 1)) := fun x => by
      rw [← C_two, sgn_mul]
      show _ = sgn (C x 2) * 1
      rw [Int.mul_one]
    rw [two, two]
    by_cases e : p < R
    · rw [sgn_pos (Int.mul_pos_of_neg_of_neg (by omega) (by omega)), sgn_pos (Int.mul_pos_of_neg_of_neg (by omega) (by omega))]
    · by_cases e2 : p < R + 2
      · have z : ∀ x : Int, (x = 0 ∨ x = 1) → x * (x - 1) = 0 := fun x h => by rcases h with h | h <;> rw [h] <;> rfl
        rw [z (p - R) (by omega), z (n - R) (by omega)]
      · rw [sgn_pos (Int.mul_pos (by omega) (by omega)), sgn_pos (Int.mul_pos (by omega) (by omega))]
theorem fold_sgn {p n : Int} : ∀ (fs : List (Int × Int)) (v w : Int), sgn v = sgn w → (∀ q ∈ fs, sgn (lin q n) = sgn (lin q p)) → sgn (fs.foldl (fun v q => v * lin q n) v) = sgn (fs.foldl (fun v q => v * lin q p) w)
  | [], v, w, h, _ => h
  | q :: fs, v, w, h, hq => by
    rw [List.foldl_cons, List.foldl_cons]
    refine fold_sgn fs _ _ ?_ fun r hr => hq r (by simp [hr])
    rw [sgn_mul, sgn_mul, h, hq q (by simp)]
theorem mem_seams (lo : Int) : ∀ (fs : List (Int × Int)) (l : List Int) (z : Int), z ∈ fs.foldl (fun l p => l ++ [p.2 / p.1, p.2 / p.1 + 1]) l ↔ z ∈ l ∨ ∃ p ∈ fs, z = p.2 / p.1 ∨ z = p.2 / p.1 + 1
  | [], l, z => by simp
  | q :: fs, l, z => by
    rw [List.foldl_cons, mem_seams lo fs]
    simp only [List.mem_append, List.mem_cons, List.not_mem_nil, or_false]
    constructor
    · rintro ((h | h) | ⟨p, hp, h⟩)
      · exact .inl h
      · exact .inr ⟨q, .inl rfl, h⟩
      · exact .inr ⟨p, .inr hp, h⟩
    · rintro (h | ⟨p, rfl | hp, h⟩)
      · exact .inl (.inl h)
      · exact .inl (.inr h)
      · exact .inr ⟨p, hp, h⟩
theorem Thing.sgn_at {t : Thing} (ok : t.Ok) {lo p n : Int} (pn : p ≤ n) (c : ∀ z ∈ t.seams lo, Clear z p n) : sgn (t.at n) = sgn (t.at p) := by
  have ms := fun z => mem_seams lo t.fs [lo, t.R, t.R + t.m] z
  unfold Thing.at
  refine fold_sgn _ _ _ ?_ fun q hq => lin_sgn (ok.pos q hq) pn (c _ ((ms _).mpr (.inr ⟨q, hq, .inl rfl⟩))) (c _ ((ms _).mpr (.inr ⟨q, hq, .inr rfl⟩)))
  rw [sgn_mul, sgn_mul, C_sgn ok.m2 pn (c _ ((ms _).mpr (.inl (by simp)))) (c _ ((ms _).mpr (.inl (by simp))))]
/-! ### far out all differences have one sign -/
def AM (B : Int) : Nat → (Int → Int) → Prop
  | 0, g => ∀ n, B ≤ n → 0 ≤ g n
  | k + 1, g => (∀ n, B ≤ n → 0 ≤ g n) ∧ AM B k (fun n => g (n + 1) - g n)
theorem AM.nn {B : Int} : ∀ {k : Nat} {g : Int → Int}, AM B k g → ∀ n, B ≤ n → 0 ≤ g n
  | 0, _, h => h
  | _ + 1, _, h => h.1
theorem AM.congr {B : Int} {k : Nat} {f g : Int → Int} (e : ∀ n, f n = g n) (h : AM B k f) : AM B k g := by rwa [funext e] at h
theorem AM.less {B : Int} : ∀ {k : Nat} {g : Int → Int}, AM B (k + 1) g → AM B k g
  | 0, _, h => h.1
  | _ + 1, _, h => ⟨h.1, AM.less h.2⟩
theorem AM.shift {B : Int} : ∀ {k : Nat} {g : Int → Int}, AM B k g → AM B k fun n => g (n + 1)
  | 0, _, h => fun n hn => h (n + 1) (by omega)
  | _ + 1, _, h => ⟨fun n hn => h.1 (n + 1) (by omega), AM.shift h.2⟩
theorem AM.add {B : Int} : ∀ {k : Nat} {g h : Int → Int}, AM B k g → AM B k h → AM B k fun n => g n + h n
  | 0, _, _, a, b => fun n hn => Int.add_nonneg (a n hn) (b n hn)
  | _ + 1, g, h, a, b => ⟨fun n hn => Int.add_nonneg (a.1 n hn) (b.1 n hn), (AM.add a.2 b.2).congr fun n => by dsimp only; omega⟩
theorem AM.mul {B : Int} : ∀ {k : Nat} {g h : Int → Int}, AM B k g → AM B k h → AM B k fun n => g n * h n
  | 0, _, _, a, b => fun n hn => Int.mul_nonneg (a n hn) (b n hn)
  | _ + 1, g, h, a, b => by
    refine ⟨fun n hn => Int.mul_nonneg (a.1 n hn) (b.1 n hn), ?_⟩
    refine (AM.add (AM.mul a.2 b.less.shift) (AM.mul a.less b.2)).congr fun n => ?_
    show (g (n + 1) - g n) * h (n + 1) + g n * (h (n + 1) - h n) = g (n + 1) * h (n + 1) - g n * h n
    rw [Int.sub_mul, Int.mul_sub]
    omega
theorem AM.zero {B : Int} : ∀ k, AM B k fun _ => 0
  | 0 => fun _ _ => Int.le_refl _
  | k + 1 => ⟨fun _ _ => Int.le_refl _, (AM.zero k).congr fun _ => rfl⟩
theorem AM.const {B c : Int} (h : 0 ≤ c) : ∀ k, AM B k fun _ => c
  | 0 => fun _ _ => h
  | k + 1 => ⟨fun _ _ => h, (AM.zero k).congr fun _ => by dsimp only; omega⟩
theorem AM.lin {B : Int} {q : Int × Int} (hq : 1 ≤ q.1) (hB : q.2 / q.1 + 1 ≤ B) (k : Nat) : AM B k (SG.lin q) := by
  have nn : ∀ n, B ≤ n → 0 ≤ SG.lin q n := fun n hn => by
    unfold SG.lin
    have h2 : q.2 < q.1 * (q.2 / q.1) + q.1 := Int.lt_mul_ediv_self_add (by omega)
    have h3 : q.1 * (q.2 / q.1 + 1) ≤ q.1 * n := Int.mul_le_mul_of_nonneg_left (by omega) (by omega)
    rw [Int.mul_add, Int.mul_one] at h3
    omega
  cases k with
  | zero => exact nn
  | succ k =>
    refine ⟨nn, (AM.const (c := q.1) (by omega) k).congr fun n => ?_⟩
    unfold SG.lin
    rw [Int.mul_add, Int.mul_one]
    omega
theorem C_delta (R : Int) (j : Nat) (n : Int) : C (n + 1 - R) (j + 1) - C (n - R) (j + 1) = C (n - R) j := by
  rw [show n + 1 - R = (n - R) + 1 by omega, pascal]
  omega
theorem AM.choose {B R : Int} : ∀ (k m : Nat), R + m ≤ B → AM B k fun n => C (n - R) m
  | 0, m, h => fun n hn => Int.le_of_lt (C_pos m (n - R) (by omega))
  | k + 1, 0, h => (AM.const (c := 1) (by decide) (k + 1)).congr fun n => (C_zero _).symm
  | k + 1, m + 1, h => ⟨fun n hn => Int.le_of_lt (C_pos (m + 1) (n - R) (by omega)), (AM.choose k m (by omega)).congr fun n => (C_delta R m n).symm⟩
theorem fold_mul (n c : Int) : ∀ (fs : List (Int × Int)) (v : Int), fs.foldl (fun v q => v * lin q n) (c * v) = c * fs.foldl (fun v q => v * lin q n) v
  | [], _ => rfl
  | q :: fs, v => by rw [List.foldl_cons, List.foldl_cons, Int.mul_assoc, fold_mul n c fs]
theorem AM.fold {B : Int} {k : Nat} : ∀ (fs : List (Int × Int)) {v : Int → Int}, AM B k v → (∀ q ∈ fs, AM B k (SG.lin q)) → AM B k fun n => fs.foldl (fun v q => v * SG.lin q n) (v n)
  | [], _, h, _ => h
  | q :: fs, v, h, hq => AM.fold fs (v := fun n => v n * SG.lin q n) (h.mul (hq q (by simp))) fun r hr => hq r (by simp [hr])
theorem Thing.am {t : Thing} (ok : t.Ok) {B lo : Int} (hB : ∀ z ∈ t.seams lo, z ≤ B) (k : Nat) : AM B k fun n => sgn t.A * t.at n := by
  have ms := fun z => mem_seams lo t.fs [lo, t.R, t.R + t.m] z
  have nA : 0 ≤ sgn t.A * t.A := by
    rcases sgn_cases t.A with ⟨a, b⟩ | ⟨a, b⟩ | ⟨a, b⟩ <;> (rw [b]; omega)
  have h1 := AM.fold (B := B) (k := k) t.fs (v := fun n => sgn t.A * t.A * C (n - t.R) t.m) ((AM.const nA k).mul (AM.choose k t.m (hB _ ((ms _).mpr (.inl (by simp)))))) fun q hq => AM.lin (ok.pos q hq) (hB _ ((ms _).mpr (.inr ⟨q, hq, .inr rfl⟩))) k
  refine h1.congr fun n => ?_
  unfold Thing.at
  rw [Int.mul_assoc, fold_mul]
theorem am_drop {B σ : Int} : ∀ (k : Nat) (r : List Int), AM B k (fun n => σ * val r n) → ∀ j, j ≤ k → ∀ n, B ≤ n → 0 ≤ σ * val (r.drop j) n
  | k, r, h, 0, _ => by rw [List.drop_zero]; exact h.nn
  | 0, _, _, j + 1, hj => absurd hj (Nat.not_succ_le_zero j)
  | k + 1, [], h, j + 1, hj => fun n _ => by
    show 0 ≤ σ * 0
    omega
  | k + 1, a :: r, h, j + 1, hj => by
    rw [List.drop_succ_cons]
    refine am_drop k r (h.2.congr fun n => ?_) j (by omega)
    dsimp only
    rw [val_next, Int.mul_add]
    omega
/-- the row of a thing is of one sign from a while behind the last seam on -/
theorem Thing.far {t : Thing} (ok : t.Ok) {B lo : Int} (hB : ∀ z ∈ t.seams lo, z ≤ B) {r : List Int} (hr : ∀ n, val r n = t.at n) (hl : (cut r).length ≤ 6) (k : Nat) (a : Int) (hk : k < (cut r).length) (ha : (cut r)[(cut r).length - 1]? = some a) (n : Int) (hn : B + 6 ≤ n) : sgn (val ((cut r).drop k) n) = sgn a := by
  have lane := cut_last ha
  have ev : ∀ n, val (cut r) n = t.at n := fun n => by rw [cut_val]; exact hr n
  generalize cut r = cs at hl hk ha ev
  have am := am_drop (B := B) (σ := sgn t.A) 6 cs ((t.am ok hB 6).congr fun n => by rw [ev])
  have dl : cs.drop (cs.length - 1) = [a] := by
    rw [List.drop_eq_getElem_cons (by omega), List.drop_of_length_le (by omega), (List.getElem?_eq_some_iff.mp ha).2]
  have vl : ∀ n, val (cs.drop (cs.length - 1)) n = a := fun n => by
    rw [dl, val_cons]
    show a + 0 = a
    omega
  have hA : sgn t.A = 1 ∨ sgn t.A = -1 := by
    rcases sgn_cases t.A with ⟨x, y⟩ | ⟨x, y⟩ | ⟨x, y⟩
    · exact .inr y
    · -- all is 0
      exfalso
      have z : ∀ n, val cs n = 0 := fun n => by
        rw [ev]
        unfold Thing.at
        rw [x]
        have := fold_mul n 0 t.fs (C (n - t.R) t.m)
        rw [Int.zero_mul] at this
        rw [Int.zero_mul, this]
        
        try omega
      have zz : ∀ (j : Nat), j < cs.length → ∀ n, val (cs.drop j) n = 0 := by
        intro j
        induction j with
        | zero => intro _ n; rw [List.drop_zero]; exact z n
        | succ j ih =>
          intro hj n
          have h1 := ih (by omega) n
          have h2 := ih (by omega) (n + 1)
          rw [List.drop_eq_getElem_cons (by omega), val_next] at h2
          rw [List.drop_eq_getElem_cons (by omega)] at h1
          omega
      have := zz (cs.length - 1) (by omega) 0
      rw [vl] at this
      exact lane this
    · exact .inl y
  have sa : sgn t.A = sgn a := by
    have h1 := am (cs.length - 1) (by omega) B (Int.le_refl _)
    rw [vl] at h1
    rcases hA with h | h <;> rw [h] at h1 ⊢
    · rw [sgn_pos (by omega)]
    · rw [sgn_neg (by omega)]
  have pos : ∀ d, d < cs.length → ∀ n, B + d ≤ n → 0 < sgn t.A * val (cs.drop (cs.length - 1 - d)) n := by
    intro d
    induction d with
    | zero =>
      intro _ n _
      rw [Nat.sub_zero, vl, sa]
      rcases sgn_cases a with ⟨x, y⟩ | ⟨x, y⟩ | ⟨x, y⟩
      · rw [y]; omega
      · exact absurd x lane
      · rw [y]; omega
    | succ d ih =>
      intro hd n hn
      have h1 := ih (by omega) (n - 1) (by omega)
      have h2 := am (cs.length - 1 - (d + 1)) (by omega) (n - 1) (by omega)
      have e : cs.length - 1 - (d + 1) + 1 = cs.length - 1 - d := by omega
      have de := List.drop_eq_getElem_cons (l := cs) (i := cs.length - 1 - (d + 1)) (by omega)
      have e2 := val_next (cs[cs.length - 1 - (d + 1)]'(by omega)) (cs.drop (cs.length - 1 - (d + 1) + 1)) (n - 1)
      rw [← de, show n - 1 + 1 = n by omega, e] at e2
      rw [e2, Int.mul_add]
      omega
  have hp := pos (cs.length - 1 - k) (by omega) n (by omega)
  rw [show cs.length - 1 - (cs.length - 1 - k) = k by omega] at hp
  rw [← sa]
  rcases hA with h | h <;> rw [h] at hp ⊢
  · rw [sgn_pos (by omega)]
  · rw [sgn_neg (by omega)]
/-! ### the row -/
theorem deg_const (c : Int) : Deg 1 fun _ => c := fun n => by
  dsimp only
  omega
theorem deg_lin (q : Int × Int) : Deg 2 (lin q) := fun n => by
  unfold lin
  dsimp only
  rw [show n + 1 + 1 = n + 2 by omega, Int.mul_add, Int.mul_add]
  omega
theorem deg_choose (R : Int) : ∀ m : Nat, Deg (m + 1) fun n => C (n - R) m
  | 0 => (deg_const 1).congr fun n => (C_zero _).symm
  | m + 1 => (deg_choose R m).congr fun n => (C_delta R m n).symm
theorem deg_fold : ∀ (fs : List (Int × Int)) {d : Nat} {v : Int → Int}, Deg (d + 1) v → Deg (fs.length + d + 1) fun n => fs.foldl (fun v q => v * lin q n) (v n)
  | [], d, v, h => by rw [List.length_nil, Nat.zero_add]; exact h
  | q :: fs, d, v, h => by
    have h1 : Deg ((d + 1) + 1) fun n => v n * lin q n := Deg.mul (d + 1) d 1 rfl h (deg_lin q)
    have h2 := deg_fold fs h1
    rw [List.length_cons, show fs.length + 1 + d + 1 = fs.length + (d + 1) + 1 by omega]
    exact h2
theorem Thing.deg (t : Thing) : Deg (t.fs.length + t.m + 1) t.at := deg_fold t.fs (Deg.mul t.m 0 t.m (Nat.zero_add _) (deg_const t.A) (deg_choose t.R t.m))
theorem Thing.row (t : Thing) (n : Int) : val (thr (vals t.at (t.fs.length + t.m + 1))) n = t.at n := newton _ t.deg n
/-! ### the pieces between the seams -/
def rims (hi : Option Int) (ns : List Int) : List (Option Int) := (ns.drop 1).map (fun n => some (n - 1)) ++ [hi]
def cutsF (f : Int → Int) (hi : Option Int) (ns : List Int) : List Tr := List.zipWith (fun a r => (a, r, sgn (f a))) ns (rims hi ns)
theorem cuts_one (f : Int → Int) (hi : Option Int) (p : Int) : cutsF f hi [p] = [(p, hi, sgn (f p))] := rfl
theorem cuts_two (f : Int → Int) (hi : Option Int) (p q : Int) (S : List Int) : cutsF f hi (p :: q :: S) = (p, some (q - 1), sgn (f p)) :: cutsF f hi (q :: S) := rfl
theorem cuts_cov {f : Int → Int} {hi : Option Int} {Sm : Int → Prop} (cst : ∀ p n : Int, p ≤ n → (∀ z, Sm z → Clear z p n) → sgn (f n) = sgn (f p)) : ∀ (S : List Int) (p : Int), (p :: S).Pairwise (· < ·) → (∀ x ∈ p :: S, ∀ h, hi = some h → x ≤ h) → (∀ z, Sm z → p < z → (∀ h, hi = some h → z ≤ h) → z ∈ S) → Cov f p hi (cutsF f hi (p :: S))
  | [], p, _, hh, sm => by
    rw [cuts_one]
    refine cov_one (fun n hn => cst p n hn.1 fun z hz ⟨a, b⟩ => ?_) ⟨Int.le_refl _, fun h e => hh p (by simp) h e⟩
    have := sm z hz a fun h e => Int.le_trans b (hn.2 h e)
    cases this
  | q :: S, p, pw, hh, sm => by
    rw [cuts_two]
    have pq : p < q := (List.pairwise_cons.mp pw).1 q (by simp)
    have pw2 := (List.pairwise_cons.mp pw).2
    refine cov_cons (fun n h1 h2 => cst p n h1 fun z hz ⟨a, b⟩ => ?_) (by omega) ?_
    · have := sm z hz a fun h e => by have := hh q (by simp) h e; omega
      rcases List.mem_cons.mp this with e | e
      · omega
      · have := (List.pairwise_cons.mp pw2).1 z e
        omega
    · rw [show q - 1 + 1 = q by omega]
      refine cuts_cov cst S q pw2 (fun x hx => hh x (by simp only [List.mem_cons] at hx ⊢; exact .inr hx)) fun z hz a b => ?_
      rcases List.mem_cons.mp (sm z hz (by omega) b) with e | e
      · omega
      · exact e
theorem rims_len (hi : Option Int) {ns : List Int} (h : ns ≠ []) : (rims hi ns).length = ns.length := by
  cases ns with
  | nil => exact absurd rfl h
  | cons a ns => simp [rims]
theorem head_lo {ns : List Int} {lo : Int} (pw : ns.Pairwise (· < ·)) (m : lo ∈ ns) (ge : ∀ x ∈ ns, lo ≤ x) : ∃ S, ns = lo :: S := by
  cases ns with
  | nil => cases m
  | cons a S =>
    have h1 := ge a (by simp)
    rcases List.mem_cons.mp m with e | e
    · exact ⟨S, by rw [e]⟩
    · have := (List.pairwise_cons.mp pw).1 lo e
      omega
def inB (lo : Int) (hi : Option Int) (n : Int) : Bool := decide (lo ≤ n) && (match hi with | none => true | some h => decide (n ≤ h))
theorem inB_iff {lo : Int} {hi : Option Int} {n : Int} : inB lo hi n = true ↔ lo ≤ n ∧ ∀ h, hi = some h → n ≤ h := by
  unfold inB
  cases hi with
  | none => simp
  | some h => simp
/-- the pieces of a thing -/
theorem Thing.cov {t : Thing} (ok : t.Ok) {lo : Int} {hi : Option Int} (lh : ∀ h, hi = some h → lo ≤ h) {ns : List Int} (pw : ns.Pairwise (· < ·)) (mem : ∀ k, k ∈ ns ↔ k ∈ t.seams lo ∧ inB lo hi k = true) : Cov t.at lo hi (cutsF t.at hi ns) := by
  have ms := fun z => mem_seams lo t.fs [lo, t.R, t.R + t.m] z
  have lm : lo ∈ ns := (mem lo).mpr ⟨(ms lo).mpr (.inl (by simp)), inB_iff.mpr ⟨Int.le_refl _, lh⟩⟩
  obtain ⟨S, rfl⟩ := head_lo pw lm fun x hx => (inB_iff.mp ((mem x).mp hx).2).1
  refine cuts_cov (Sm := fun z => z ∈ t.seams lo) (fun p n h c => Thing.sgn_at ok (lo := lo) h c) S lo pw (fun x hx => (inB_iff.mp ((mem x).mp hx).2).2) fun z hz a b => ?_
  have := (mem z).mpr ⟨hz, inB_iff.mpr ⟨by omega, b⟩⟩
  rcases List.mem_cons.mp this with e | e
  · omega
  · exact e
theorem seams_len (t : Thing) (lo : Int) : (t.seams lo).length = 3 + 2 * t.fs.length := by
  have : ∀ (fs : List (Int × Int)) (l : List Int), (fs.foldl (fun l p => l ++ [p.2 / p.1, p.2 / p.1 + 1]) l).length = l.length + 2 * fs.length := by
    intro fs
    induction fs with
    | nil => intro l; simp
    | cons q fs ih =>
      intro l
      rw [List.foldl_cons, ih]
      simp
      omega
  unfold Thing.seams
  rw [this]
  rfl
end EN.SG

namespace EN
open PySem L2 PyProof.Rows
section
variable {P : Program} {w : World} {K : PySem.W.Frag} {mg : Str → Option Value} {base : Heap} {f : Addr} {fd : FuncData}
open SG
abbrev kA : Key := Sum.inr "amount"
abbrev kF : Key := Sum.inr "factors"
abbrev kRt : Key := Sum.inr "root"
abbrev kM : Key := Sum.inr "many"
def thL (A : Int) (fl : Addr) (R : Int) (m : Nat) : List (Key × V) := [(kA, .int A), (kF, .ref fl), (kRt, .int R), (kM, .int (m : Int))]
theorem th_a (A : Int) (fl : Addr) (R : Int) (m : Nat) : valV (thL A fl R m) kA = some (.int A) := valV_pos rfl
theorem th_f (A : Int) (fl : Addr) (R : Int) (m : Nat) : valV (thL A fl R m) kF = some (.ref fl) := by
  unfold thL
  rw [valV_neg (show ¬ (kA = kF) by decide +kernel), valV_pos rfl]
theorem th_r (A : Int) (fl : Addr) (R : Int) (m : Nat) : valV (thL A fl R m) kRt = some (.int R) := by
  unfold thL
  rw [valV_neg (show ¬ (kA = kRt) by decide +kernel), valV_neg (show ¬ (kF = kRt) by decide +kernel), valV_pos rfl]
theorem th_m (A : Int) (fl : Addr) (R : Int) (m : Nat) : valV (thL A fl R m) kM = some (.int (m : Int)) := by
  unfold thL
  rw [valV_neg (show ¬ (kA = kM) by decide +kernel), valV_neg (show ¬ (kF = kM) by decide +kernel), valV_neg (show ¬ (kRt = kM) by decide +kernel), valV_pos rfl]
/-- the thing stands at t -/
def ThgAt (K : PySem.W.Frag) (H : Hp) (t : Addr) (th : Thing) : Prop := ∃ (fl : Addr) (bs : List Addr), H t = some (.dK (thL th.A fl th.R th.m)) ∧ H fl = some (.lst (bs.map V.ref)) ∧ bs.length = th.fs.length ∧ ∀ (i : Nat) (b : Addr) (q : Int × Int), bs[i]? = some b → th.fs[i]? = some q → SqT K H b [.int q.1, .int q.2]
theorem ThgAt.same {H H' : Hp} {t : Addr} {th : Thing} (h : ThgAt K H t th) (s : Same H H') : ThgAt K H' t th := by
  obtain ⟨fl, bs, h1, h2, h3, h4⟩ := h
  exact ⟨fl, bs, s _ _ h1, s _ _ h2, h3, fun i b q e1 e2 => sqT_same s (h4 i b q e1 e2)⟩
structure TGood (th : Thing) (base : Int) : Prop where
  m2 : th.m ≤ 2
  fs2 : th.fs.length ≤ 2
  b0 : 0 ≤ base
  b1 : Sz 200 base
  rlo : base - 2 ≤ th.R
  rhi : th.R ≤ base + 6
  A : Sz 202 th.A
  fs : ∀ q ∈ th.fs, 1 ≤ q.1 ∧ q.1 ≤ 3 ∧ base - 2 ≤ q.2 / q.1 ∧ q.2 / q.1 ≤ base + 10 ∧ Sz 206 q.2
theorem TGood.ok {th : Thing} {base : Int} (g : TGood th base) : th.Ok := ⟨g.m2, g.fs2, fun p hp => (g.fs p hp).1⟩
theorem TGood.szR {th : Thing} {base : Int} (g : TGood th base) : Sz 204 th.R := by
  have h0 := g.b0
  have h1 := g.b1
  have h2 := g.rlo
  have h3 := g.rhi
  unfold Sz at *
  omega
theorem TGood.sz0 {th : Thing} {base : Int} (g : TGood th base) {n : Int} (hn : Sz 204 n) : Sz 640 (th.A * M.C (n - th.R) th.m) := by
  have h1 : Sz 205 (n - th.R) := hn.sub g.szR
  have h2 := Cb (b := 205) (by decide) h1 (k := th.m) (by have := g.m2; omega)
  have h3 := g.A.mul h2
  refine h3.mono ?_
  have := g.m2
  omega
theorem lin_sz {q : Int × Int} (h1 : 1 ≤ q.1) (h3 : q.1 ≤ 3) (hc : Sz 206 q.2) {n : Int} (hn : Sz 204 n) : Sz 206 (q.1 * n) ∧ Sz 207 (lin q n) := by
  have hs : Sz 2 q.1 := by unfold Sz; omega
  have h := hs.mul hn
  exact ⟨h, h.sub hc⟩
theorem fold_sz {n : Int} (hn : Sz 204 n) : ∀ (fs : List (Int × Int)) {v : Int} {b : Nat}, Sz b v → (∀ q ∈ fs, 1 ≤ q.1 ∧ q.1 ≤ 3 ∧ Sz 206 q.2) → Sz (b + 207 * fs.length) (fs.foldl (fun v q => v * lin q n) v)
  | [], v, b, h, _ => h
  | q :: fs, v, b, h, hq => by
    have h1 := hq q (by simp)
    have h2 := fold_sz hn fs (h.mul (lin_sz h1.1 h1.2.1 h1.2.2 hn).2) fun r hr => hq r (by simp [hr])
    rw [List.foldl_cons, List.length_cons]
    exact h2.mono (by omega)
theorem TGood.sz {th : Thing} {base : Int} (g : TGood th base) {n : Int} (hn : Sz 204 n) : Sz 1100 (th.at n) := by
  have := fold_sz hn th.fs (g.sz0 hn) fun q hq => ⟨(g.fs q hq).1, (g.fs q hq).2.1, (g.fs q hq).2.2.2.2⟩
  refine Sz.mono this ?_
  have := g.fs2
  omega
def spLSign : Sp := fun vs H Q _ => ∃ x : Int, vs = [.int x] ∧ Q (.int (sgn x)) H
abbrev s_lsign : Stmt := top 46
abbrev N_lsign : List Str := ["_law_amount"]
theorem sc_lsign : FnScope N_lsign ["_law_amount"] (defScope s_lsign) := ⟨rfl, rfl, rfl, by decide +kernel, rfl, by decide +kernel, by decide +kernel⟩

theorem ok_lsign (F : Fun K "_law_sign" "_law_sign" s_lsign f fd) (T : Blt mg) : FnOk P w K mg base CX0 1 f fd ["_law_amount"] spLSign := by
  refine F.ok sc_lsign (fun vs H Q E h => ?_) (fun cdv A outer s H vs Q E hr h => ?_)
  · obtain ⟨_, rfl, _⟩ := h
    rfl
  · obtain ⟨x, rfl, k⟩ := h
    refine ⟨_, (pss_one (ps_ret (pe_op op_sub (pe_callTy call_int1 (by rfl) T.int_ (by decide +kernel) (pa_cons (pe_cmpR op_gt (pv 0) pe_int (nomark _)) pa_nil)) (pe_callTy call_int1 (by rfl) T.int_ (by decide +kernel) (pa_cons (pe_cmpR op_lt (pv 0) pe_int (nomark _)) pa_nil))))), ?_⟩
    refine ⟨_, rfl, _, _, rfl, rfl, .inr ⟨_, rfl, _, rfl, _, _, rfl, rfl, .inr ⟨_, rfl, _, _, rfl, rfl, ?_⟩⟩⟩
    have e : (if decide (0 < x) = true then (1 : Int) else 0) - (if decide (x < 0) = true then (1 : Int) else 0) = sgn x := by
      rcases sgn_cases x with ⟨h1, h2⟩ | ⟨h1, h2⟩ | ⟨h1, h2⟩
      · rw [h2, if_neg (by simp; omega), if_pos (by simp; omega)]
        rfl
      · rw [h2, h1]
        rfl
      · rw [h2, if_pos (by simp; omega), if_neg (by simp; omega)]
        rfl
    rw [← e] at k
    exact k
def spThingAt (K : PySem.W.Frag) : Sp := fun vs H Q _ => ∃ (t : Addr) (th : Thing) (base n : Int), vs = [.ref t, .int n] ∧ ThgAt K H t th ∧ TGood th base ∧ Sz 204 n ∧ ∀ H' : Hp, Same H H' → Q (.int (th.at n)) H'
abbrev s_thing_at : Stmt := top 49
abbrev N_thing_at : List Str := ["_law_thing_here", "_law_n", "_law_value", "_law_scale", "_law_constant"]
theorem sc_thing_at : FnScope N_thing_at ["_law_thing_here", "_law_n"] (defScope s_thing_at) := ⟨rfl, rfl, rfl, by decide +kernel, rfl, by decide +kernel, by decide +kernel⟩

theorem ok_thing_at (F : Fun K "_law_thing_at" "_law_thing_at" s_thing_at f fd) (T : Blt mg) (G_choose : Has P w K mg base 1 "_law_choose" ["_law_n", "_law_k"] spChoose) : FnOk P w K mg base CX0 2 f fd ["_law_thing_here", "_law_n"] (spThingAt K) := by
  refine F.ok sc_thing_at (fun vs H Q E h => ?_) (fun cdv A outer s H vs Q E hr h => ?_)
  · obtain ⟨_, _, _, _, rfl, _⟩ := h
    rfl
  · obtain ⟨t, th, bs0, n, rfl, hT, g, hn, k⟩ := h
    have hu := hu_of hr
    refine ⟨_, (pss_cons (ps_set (i := 2) sc_thing_at.nd rfl (Or.inl rfl) (pe_op op_mulW (pe_dget hu (pv 0) pe_str (fun _ _ => rfl)) (pe_has G_choose (hr.mono (by decide)) (pa_cons (pe_op op_sub (pv 1) (pe_dget hu (pv 0) pe_str (fun _ _ => rfl))) (pa_cons (pe_dget hu (pv 0) pe_str (fun _ _ => rfl)) pa_nil)))))
    (pss_cons (ps_for PassesOwn.never rfl (pi_list (pe_dget hu (pv 0) pe_str (fun _ _ => rfl))) (pg_tup rfl (pgs_cons (pg_name (i := 3) sc_thing_at.nd rfl (Or.inl rfl)) (pgs_cons (pg_name (i := 4) sc_thing_at.nd rfl (Or.inl rfl)) pgs_nil)))
      (pss_one (ps_set (i := 2) sc_thing_at.nd rfl (Or.inl rfl) (pe_op op_mulW (pv 2) (pe_op op_sub (pe_op op_mulW (pv 3) (pv 1)) (pv 4))))))
    (pss_one (ps_ret (pv 2))))), ?_⟩
    obtain ⟨fl, bs, ht, hfl, hbl, hbq⟩ := hT
    have gA : DGet H t (.str "amount") (some (.int th.A)) := by
      have z := DGet.k (k := kA) ht
      rw [th_a] at z
      exact z
    have gF : ∀ {H' : Hp}, Same H H' → DGet H' t (.str "factors") (some (.ref fl)) := fun s => by
      have z := DGet.k (k := kF) (s _ _ ht)
      rw [th_f] at z
      exact z
    have gR : DGet H t (.str "root") (some (.int th.R)) := by
      have z := DGet.k (k := kRt) ht
      rw [th_r] at z
      exact z
    have gM : DGet H t (.str "many") (some (.int (th.m : Int))) := by
      have z := DGet.k (k := kM) ht
      rw [th_m] at z
      exact z
    have zn : Sz 205 (n - th.R) := hn.sub g.szR
    have zC := Cb (b := 205) (by decide) zn (k := th.m) (by have := g.m2; omega)
    have zok : CMulW th.A (M.C (n - th.R) th.m) := g.A.mulOk zC (by have := g.m2; omega)
    refine ⟨_, rfl, t, _, rfl, gA, _, rfl, _, rfl, t, _, rfl, gR, _, _, rfl, rfl, _, rfl, t, _, rfl, gM, n - th.R, th.m, 205, rfl, by have := g.m2; omega, by decide, by decide, zn, fun H1 s1 => ⟨_, _, rfl, rfl, zok, ?_⟩⟩
    refine ⟨_, rfl, t, _, rfl, gF s1, fl, rfl, ⟨_, SqL.of (s1 _ _ hfl)⟩, ?_⟩
    refine for_list (K := K) (a := fl) (xs := bs.map V.ref) (fun i σ H' => ∃ v3 v4 : Option V, σ = [some (.ref t), some (.int n), some (.int ((th.fs.take i).foldl (fun v q => v * lin q n) (th.A * M.C (n - th.R) th.m))), v3, v4] ∧ Same H H') ⟨none, none, rfl, s1⟩ (fun i σ H' _ h => by obtain ⟨_, _, _, s2⟩ := h; exact SqL.of (s2 _ _ hfl)) ?_ ?_
    · rintro i x σ H2 hx ⟨v3, v4, rfl, s2⟩
      have hi : i < th.fs.length := by
        have := (List.getElem?_eq_some_iff.mp hx).1
        rwa [List.length_map, hbl] at this
      obtain ⟨q, eq⟩ : ∃ q, th.fs[i]? = some q := ⟨_, List.getElem?_eq_getElem hi⟩
      obtain ⟨b, eb⟩ : ∃ b, bs[i]? = some b := ⟨_, List.getElem?_eq_getElem (by rw [hbl]; exact hi)⟩
      rw [List.getElem?_map, eb] at hx
      cases hx
      have hb := sqT_same s2 (hbq i b q eb eq)
      have gq := g.fs q (List.mem_of_getElem? eq)
      obtain ⟨z1, z2⟩ := lin_sz gq.1 gq.2.1 gq.2.2.2.2 hn
      have zv := fold_sz hn (th.fs.take i) (g.sz0 hn) fun r hr => by
        have := g.fs r (List.mem_of_mem_take hr)
        exact ⟨this.1, this.2.1, this.2.2.2.2⟩
      have li : (th.fs.take i).length ≤ 2 := by rw [List.length_take]; have := g.fs2; omega
      have tk : (th.fs.take (i + 1)).foldl (fun v q => v * lin q n) (th.A * M.C (n - th.R) th.m) = (th.fs.take i).foldl (fun v q => v * lin q n) (th.A * M.C (n - th.R) th.m) * (q.1 * n - q.2) := by
        rw [List.take_succ, eq, List.foldl_append]
        rfl
      rw [tk]
      generalize (th.fs.take i).foldl (fun v q => v * lin q n) (th.A * M.C (n - th.R) th.m) = v at zv ⊢
      have zs : Sz 2 q.1 := by
        unfold Sz
        omega
      refine ⟨b, _, rfl, hb, rfl, _, _, rfl, _, _, rfl, rfl, ?_⟩
      exact ⟨_, rfl, _, rfl, _, rfl, _, _, rfl, rfl, zs.mulOk hn (by decide), _, rfl, _, _, rfl, rfl, _, _, rfl, rfl, zv.mulOk z2 (by omega), _, _, rfl, s2⟩
    · rintro σ H2 ⟨v3, v4, rfl, s2⟩
      rw [List.length_map, hbl, List.take_length]
      exact ⟨_, rfl, k H2 s2⟩
def spThingRow (K : PySem.W.Frag) : Sp := fun vs H Q _ => ∃ (t : Addr) (th : Thing) (base : Int), vs = [.ref t] ∧ ThgAt K H t th ∧ TGood th base ∧ ∀ (u : Addr) (r : List Int) (H' : Hp), Same H H' → SqT K H' u ((M.cut r).map V.int) → r.length ≤ 5 → SzA 1200 r → (∀ n, M.val r n = th.at n) → Q (.ref u) H'
abbrev s_thing_row : Stmt := top 50
abbrev N_thing_row : List Str := ["_law_thing_here", "_law_n"]
theorem sc_thing_row : FnScope N_thing_row ["_law_thing_here"] (defScope s_thing_row) := ⟨rfl, rfl, rfl, by decide +kernel, rfl, by decide +kernel, by decide +kernel⟩

theorem ok_thing_row (F : Fun K "_law_thing_row" "_law_thing_row" s_thing_row f fd) (T : Blt mg) (G_thing_at : Has P w K mg base 2 "_law_thing_at" ["_law_thing_here", "_law_n"] (spThingAt K)) (G_lrowof : Has P w K mg base 2 "_law_row_of" ["_law_amounts"] (spRowOf K)) : FnOk P w K mg base CX0 3 f fd ["_law_thing_here"] (spThingRow K) := by
  refine F.ok sc_thing_row (fun vs H Q E h => ?_) (fun cdv A outer s H vs Q E hr h => ?_)
  · obtain ⟨_, _, _, rfl, _⟩ := h
    rfl
  · obtain ⟨t, th, bs0, rfl, hT, g, k⟩ := h
    have hu := hu_of hr
    refine ⟨_, (pss_one (ps_ret (pe_has G_lrowof (hr.mono (by decide)) (pa_cons (pe_lc (own := [("_law_n", 1)]) (g := gName 1) (tt := tYes) (by rfl) sc_thing_row.nd (pi_range1 (by rfl) T.range_ (pa_cons (pe_op op_add (pe_op op_add (pe_callB (show CallR _ _ (rLenQ K) from c_len) (by rfl) T.len_ (by decide +kernel) (pa_cons (pe_dget hu (pv 0) pe_str (fun _ _ => rfl)) pa_nil)) (pe_dget hu (pv 0) pe_str (fun _ _ => rfl))) pe_int) pa_nil)) (blkOk_by (own := [("_law_n", 1)]) (N := N_thing_row) (sc := defScope s_thing_row) (by decide +kernel)) (fun _ _ _ _ _ => (pg_name (i := 1) sc_thing_row.nd rfl (by first | exact Or.inl rfl | exact Or.inr rfl))) (fun _ _ _ _ _ => pts_nil) (fun _ _ _ _ _ => (pe_has G_thing_at (hr.mono (by decide)) (pa_cons (pv 0) (pa_cons (pv 1) pa_nil))))) pa_nil)))), ?_⟩
    obtain ⟨fl, bs, ht, hfl, hbl, hbq⟩ := id hT
    have gF : DGet H t (.str "factors") (some (.ref fl)) := by
      have z := DGet.k (k := kF) ht
      rw [th_f] at z
      exact z
    have gM : DGet H t (.str "many") (some (.int (th.m : Int))) := by
      have z := DGet.k (k := kM) ht
      rw [th_m] at z
      exact z
    have ln := g.fs2
    have lm := g.m2
    refine ⟨_, rfl, t, _, rfl, gF, fl, _, rfl, .inl (SqL.of hfl), _, rfl, t, _, rfl, gM, _, _, rfl, rfl, _, _, rfl, rfl, ((th.fs.length + th.m + 1 : Nat) : Int), ?_, by omega, by omega, fun D hD => ?_⟩
    · rw [List.length_map, hbl]
      rfl
    rw [Int.toNat_natCast]
    refine ZK.lc_growR (th.fs.length + th.m + 1) (small1000 (by omega)) (fun _ H' => Same H H') (fun i y => y = .int (th.at (i : Int))) (same_new (Same.refl H) _ hD) ?_ ?_
    · intro i H1 acc hi s1 hacc hal hR Qn hq
      refine ⟨rfl, _, rfl, _, rfl, t, th, bs0, _, rfl, hT.same s1, g, ?_, fun H2 s2 => ?_⟩
      · unfold Sz
        omega
      · rw [Int.zero_add]
        exact hq _ _ rfl (s2 _ _ hacc) (same_but_new (s1.trans s2) hD)
    · intro H1 acc s1 hacc hal hR
      have e := ZK.eq_map hal hR
      have e2 : acc = (M.vals th.at (th.fs.length + th.m + 1)).map V.int := by
        rw [e]
        unfold M.vals
        rw [List.map_map]
        rfl
      have zA : SzA 1100 (M.vals th.at (th.fs.length + th.m + 1)) := fun x hx => by
        unfold M.vals at hx
        obtain ⟨j, hj, rfl⟩ := List.mem_map.mp hx
        have hj := List.mem_range.mp hj
        refine g.sz ?_
        unfold Sz
        omega
      have lv : (M.vals th.at (th.fs.length + th.m + 1)).length = th.fs.length + th.m + 1 := M.vals_len _ _
      refine ⟨D, M.vals th.at (th.fs.length + th.m + 1), rfl, .inl (SqL.of (by rw [hacc, e2])), by omega, fun u H2 s2 hu2 => ?_⟩
      exact k u (M.thr (M.vals th.at (th.fs.length + th.m + 1))) H2 (s1.trans s2) hu2 (by rw [M.thr_len]; omega) (fun x hx => (thr_szb _ _ 1100 lv zA x hx).mono (by omega)) (fun n => th.row n)
end
end EN

namespace EN
open PySem L2 PyProof.Rows
section
variable {P : Program} {w : World} {K : PySem.W.Frag} {mg : Str → Option Value} {base : Heap} {f : Addr} {fd : FuncData}
abbrev s_pick : Stmt := top 38
abbrev N_pick : List Str := ["_law_pen_here", "_law_options"]
theorem sc_pick : FnScope N_pick ["_law_pen_here", "_law_options"] (defScope s_pick) := ⟨rfl, rfl, rfl, by decide +kernel, rfl, by decide +kernel, by decide +kernel⟩

theorem at_any {xs : List V} {i : Int} (h0 : 0 ≤ i) (h1 : i < xs.length) : ∃ x, x ∈ xs ∧ atI xs i = some x := by
  obtain ⟨n, rfl⟩ := Int.eq_ofNat_of_zero_le h0
  have hn : n < xs.length := by omega
  exact ⟨xs[n], List.getElem_mem hn, atI_nat (List.getElem?_eq_getElem hn)⟩
theorem ok_pick (F : Fun K "_law_pick" "_law_pick" s_pick f fd) (T : Blt mg) (G_draw : Has P w K mg base 1 "_law_draw" ["_law_pen_here", "_law_many"] spDraw) : FnOk P w K mg base CX0 2 f fd ["_law_pen_here", "_law_options"] (spPick K) := by
  refine F.ok sc_pick (fun vs H Q E h => ?_) (fun cdv A outer s H vs Q E hr h => ?_)
  · obtain ⟨p, c, ns, B, l, xs, rfl, _⟩ := h
    rfl
  · obtain ⟨p, c, ns, B, l, xs, rfl, hP, hB, hS, h0, hl, k⟩ := h
    refine ⟨_, (pss_one (ps_ret (pe_ix (show IxR _ (rIx K) from ix_seq) (pv 1) (pe_has G_draw (hr.mono (by decide)) (pa_cons (pv 0) (pa_cons (pe_callB (show CallR _ _ (rLenQ K) from c_len) (by rfl) T.len_ (by decide +kernel) (pa_cons (pv 1) pa_nil)) pa_nil))) (fun _ _ => rfl)))), ?_⟩
    refine ⟨_, rfl, _, rfl, _, rfl, l, xs, rfl, hS, p, c, ns, B, (xs.length : Int), rfl, hP, hB, by omega, ?_, fun d H1 d0 d1 P1 s1 => ?_⟩
    · exact Nat.lt_of_le_of_lt (by omega : (xs.length : Int).natAbs ≤ 1000) (Nat.lt_of_lt_of_le (by decide : 1000 < 2 ^ 10) (Nat.pow_le_pow_right (by decide) (by decide)))
    · obtain ⟨x, hx, hat⟩ := at_any (xs := xs) d0 d1
      rcases hS with hS | hS
      · exact .inl ⟨l, xs, d, x, rfl, rfl, hP.sqL s1 hS, hat, k x hx H1 P1 s1⟩
      · exact .inr (.inl ⟨l, xs, d, x, rfl, rfl, hP.sqT s1 hS, hat, k x hx H1 P1 s1⟩)
end
end EN

namespace EN
open PySem L2 PyProof.Rows
section
variable {P : Program} {w : World} {K : PySem.W.Frag} {mg : Str → Option Value} {base : Heap} {f : Addr} {fd : FuncData}
/-! ### lists and tuples stay -/
structure Kp (K : PySem.W.Frag) (H H' : Hp) : Prop where
  l : ∀ (a : Addr) (xs : List V), SqL K H a xs → SqL K H' a xs
  t : ∀ (a : Addr) (xs : List V), SqT K H a xs → SqT K H' a xs
  d : ∀ a : Addr, H a = some (.dK []) → H' a = some (.dK [])
theorem Kp.refl (H : Hp) : Kp K H H := ⟨fun _ _ h => h, fun _ _ h => h, fun _ h => h⟩
theorem Kp.of {H H' : Hp} (s : Same H H') : Kp K H H' := ⟨fun _ _ h => s.seq h, fun _ _ h => sqT_same s h, fun _ h => s _ _ h⟩
theorem Kp.trans {H H1 H2 : Hp} (a : Kp K H H1) (b : Kp K H1 H2) : Kp K H H2 := ⟨fun c xs h => b.l c xs (a.l c xs h), fun c xs h => b.t c xs (a.t c xs h), fun c h => b.d c (a.d c h)⟩
theorem Pen.kp {H H' : Hp} {p c : Addr} {ns : List Int} {B : Nat} (P : Pen H p c ns B) (s : But p H H') : Kp K H H' := by
  refine ⟨fun _ _ h => P.sqL s h, fun _ _ h => P.sqT s h, fun a h => s _ _ h fun z => ?_⟩
  obtain ⟨b, r, e, _⟩ := P.at_
  rw [z, e] at h
  cases h
/-! ### things -/
inductive El | i (n : Int) | tru | s (x : Str) | u
inductive Th | tup (es : List El) | lst (r : List Int) | non | str (x : Str) | int (n : Int) | dct
def ElAt (K : PySem.W.Frag) (H : Hp) : V → El → Prop
  | .int n, .i m => n = m
  | .bl b, .tru => b = true
  | .str x, .s y => x = y
  | .ref a, .u => SqT K H a []
  | _, _ => False
def ElsAt (K : PySem.W.Frag) (H : Hp) : List V → List El → Prop
  | [], [] => True
  | v :: vs, e :: es => ElAt K H v e ∧ ElsAt K H vs es
  | _, _ => False
def ThAt (K : PySem.W.Frag) (H : Hp) : V → Th → Prop
  | .ref a, .tup es => ∃ xs, SqT K H a xs ∧ ElsAt K H xs es ∧ es.length ≤ 40
  | .ref a, .lst r => SqL K H a (r.map V.int)
  | .ref a, .dct => H a = some (.dK [])
  | .non, .non => True
  | .str x, .str y => x = y
  | .int n, .int m => n = m
  | _, _ => False
theorem ElAt.kp {H H' : Hp} (k : Kp K H H') : ∀ {v : V} {e : El}, ElAt K H v e → ElAt K H' v e := by
  intro v e h
  cases v <;> cases e <;> first | exact h.elim | exact h | exact k.t _ _ h
theorem ElsAt.kp {H H' : Hp} (k : Kp K H H') : ∀ {vs : List V} {es : List El}, ElsAt K H vs es → ElsAt K H' vs es
  | [], [], _ => trivial
  | v :: vs, e :: es, h => ⟨h.1.kp k, ElsAt.kp k h.2⟩
  | [], _ :: _, h => h.elim
  | _ :: _, [], h => h.elim
theorem ThAt.kp {H H' : Hp} (k : Kp K H H') : ∀ {v : V} {e : Th}, ThAt K H v e → ThAt K H' v e := by
  intro v e h
  cases v <;> cases e <;> first | exact h.elim | exact h | exact k.l _ _ h | exact k.d _ h | (obtain ⟨xs, h1, h2, h3⟩ := h; exact ⟨xs, k.t _ _ h1, h2.kp k, h3⟩)
theorem ElsAt.len {H : Hp} : ∀ {vs : List V} {es : List El}, ElsAt K H vs es → vs.length = es.length
  | [], [], _ => rfl
  | v :: vs, e :: es, h => congrArg Nat.succ (ElsAt.len h.2)
  | [], _ :: _, h => h.elim
  | _ :: _, [], h => h.elim
theorem ElsAt.get {H : Hp} : ∀ {vs : List V} {es : List El} {i : Nat} {x : V}, ElsAt K H vs es → vs[i]? = some x → ∃ e, es[i]? = some e ∧ ElAt K H x e
  | v :: vs, e :: es, 0, x, h, hx => by
    rw [List.getElem?_cons_zero] at hx ⊢
    cases hx
    exact ⟨e, rfl, h.1⟩
  | v :: vs, e :: es, i + 1, x, h, hx => by
    rw [List.getElem?_cons_succ] at hx ⊢
    exact ElsAt.get h.2 hx
  | [], [], _, _, _, hx => by simp at hx
  | [], _ :: _, _, _, h, _ => h.elim
  | _ :: _, [], _, _, h, _ => h.elim
/-- the ints of a tuple of ints alone -/
def intsOf : List El → Option (List Int)
  | [] => some []
  | .i n :: es => (intsOf es).map (n :: ·)
  | _ :: _ => none
def isI : El → Bool
  | .i _ => true
  | _ => false
def elI (e : El) : Int := match e with
  | .i n => n
  | _ => 0
theorem intsOf_all : ∀ es : List El, intsOf es = if es.all isI = true then some (es.map elI) else none
  | [] => rfl
  | .i n :: es => by
    show (intsOf es).map (n :: ·) = _
    rw [intsOf_all es]
    by_cases h : es.all isI = true
    · rw [if_pos h, if_pos (by simpa [isI] using h)]
      rfl
    · rw [if_neg h, if_neg (by simpa [isI] using h)]
      rfl
  | .tru :: es => by rw [if_neg (by simp [isI])]; rfl
  | .s _ :: es => by rw [if_neg (by simp [isI])]; rfl
  | .u :: es => by rw [if_neg (by simp [isI])]; rfl
theorem ElsAt.intsOf {H : Hp} : ∀ {vs : List V} {es : List El} {r : List Int}, ElsAt K H vs es → EN.intsOf es = some r → vs = r.map V.int
  | [], [], r, _, h => by cases h; rfl
  | v :: vs, .i n :: es, r, h, hr => by
    obtain ⟨h1, h2⟩ := h
    cases v with
    | int m =>
      obtain rfl : m = n := h1
      obtain ⟨r2, e2, rfl⟩ := Option.map_eq_some_iff.mp (show (EN.intsOf es).map (m :: ·) = some r from hr)
      rw [ElsAt.intsOf h2 e2]
      rfl
    | _ => exact h1.elim
  | [], _ :: _, _, h, _ => h.elim
  | _ :: _, [], _, h, _ => h.elim
  | _ :: _, .tru :: _, _, _, h => nomatch h
  | _ :: _, .s _ :: _, _, _, h => nomatch h
  | _ :: _, .u :: _, _, _, h => nomatch h
theorem elsAt_ints {H : Hp} : ∀ r : List Int, ElsAt K H (r.map V.int) (r.map El.i)
  | [] => trivial
  | n :: r => ⟨rfl, elsAt_ints r⟩
theorem intsOf_map : ∀ r : List Int, intsOf (r.map El.i) = some r
  | [] => rfl
  | n :: r => by
    show (intsOf (r.map El.i)).map (n :: ·) = _
    rw [intsOf_map r]
    rfl
/-- 0 to n - 1 -/
def upto (n : Nat) : List Int := (List.range n).map fun k : Nat => (k : Int)
def Th.nums : Th → Option (List Int)
  | .tup es => EN.intsOf es
  | _ => none
def IsRen (th : Th) : Prop := ∃ r, th.nums = some r ∧ r.Perm (upto r.length)
theorem thAt_ints {H : Hp} {a : Addr} {r : List Int} (h : SqT K H a (r.map V.int)) (l : r.length ≤ 40) : ThAt K H (.ref a) (.tup (r.map El.i)) := ⟨_, h, elsAt_ints r, by rw [List.length_map]; exact l⟩
theorem ThAt.ren {H : Hp} {v : V} {th : Th} {r : List Int} (h : ThAt K H v th) (e : th.nums = some r) : ∃ a, v = .ref a ∧ SqT K H a (r.map V.int) ∧ r.length ≤ 40 := by
  cases th with
  | tup es =>
    cases v with
    | ref a =>
      obtain ⟨xs, h1, h2, h3⟩ := h
      have e2 := h2.intsOf e
      exact ⟨a, rfl, e2 ▸ h1, by have := h2.len; rw [e2, List.length_map] at this; omega⟩
    | _ => exact h.elim
  | _ => cases e
end
end EN

namespace EN
open PySem L2 PyProof.Rows
section
variable {P : Program} {w : World} {K : PySem.W.Frag} {mg : Str → Option Value} {base : Heap} {f : Addr} {fd : FuncData}
open SG
theorem lit8 (m : Int) (h0 : 0 < m) (h1 : m < 5000) : m.natAbs < 2 ^ 8000 := Nat.lt_of_lt_of_le (by omega : m.natAbs < 2 ^ 13) (Nat.pow_le_pow_right (by decide) (by decide))
/-- the factors stand in the list g -/
def FacAt (K : PySem.W.Frag) (H : Hp) (g : Addr) (bs : List Addr) (fs : List (Int × Int)) : Prop := H g = some (.lst (bs.map V.ref)) ∧ bs.length = fs.length ∧ ∀ (i : Nat) (b : Addr) (q : Int × Int), bs[i]? = some b → fs[i]? = some q → SqT K H b [.int q.1, .int q.2]
def FsOk (base : Int) (fs : List (Int × Int)) : Prop := ∀ q ∈ fs, 1 ≤ q.1 ∧ q.1 ≤ 3 ∧ base - 2 ≤ q.2 / q.1 ∧ q.2 / q.1 ≤ base + 10 ∧ Sz 206 q.2
theorem FacAt.snoc {H H' : Hp} {g u : Addr} {bs : List Addr} {fs : List (Int × Int)} {q : Int × Int} (h : FacAt K H g bs fs) (kp : Kp K H H') (hu : SqT K H' u [.int q.1, .int q.2]) (hg : H' g = some (.lst (bs.map V.ref))) : FacAt K (L2.upd H' g (.lst (bs.map V.ref ++ [.ref u]))) g (bs ++ [u]) (fs ++ [q]) := by
  refine ⟨by rw [upd_same, List.map_append]; rfl, by rw [List.length_append, List.length_append, h.2.1]; rfl, fun i b r e1 e2 => sqT_updL ?_ hg⟩
  by_cases hi : i < bs.length
  · rw [List.getElem?_append_left hi] at e1
    rw [List.getElem?_append_left (by rw [← h.2.1]; exact hi)] at e2
    exact kp.t _ _ (h.2.2 i b r e1 e2)
  · have hi2 : i = bs.length := by
      have := (List.getElem?_eq_some_iff.mp e1).1
      simp at this
      omega
    subst hi2
    rw [List.getElem?_append_right (Nat.le_refl _), Nat.sub_self] at e1
    rw [h.2.1, List.getElem?_append_right (Nat.le_refl _), Nat.sub_self] at e2
    cases e1
    cases e2
    exact hu
theorem FacAt.kp {H H' : Hp} {g : Addr} {bs : List Addr} {fs : List (Int × Int)} (h : FacAt K H g bs fs) (kp : Kp K H H') (hg : H' g = some (.lst (bs.map V.ref))) : FacAt K H' g bs fs := ⟨hg, h.2.1, fun i b q e1 e2 => kp.t _ _ (h.2.2 i b q e1 e2)⟩
theorem fac_ok {ba sc d e : Int} (zb : Sz 200 ba) (b0 : 0 ≤ ba) (s1 : 1 ≤ sc) (s3 : sc ≤ 3) (d0 : 0 ≤ d) (d1 : d < 12) (e0 : 0 ≤ e) (e1 : e < sc) : ba - 2 ≤ (sc * (ba + d - 2) + e) / sc ∧ (sc * (ba + d - 2) + e) / sc ≤ ba + 10 ∧ Sz 206 (sc * (ba + d - 2) + e) := by
  unfold Sz at *
  have : sc = 1 ∨ sc = 2 ∨ sc = 3 := by omega
  rcases this with rfl | rfl | rfl <;> omega
theorem th_mk (A : Int) (fl : Addr) (R : Int) (m : Nat) : mergeK [] [(kA, V.int A), (kF, .ref fl), (kRt, .int R), (kM, .int (m : Int))] = thL A fl R m := by
  have h1 : ¬ (kA = kF) := by decide +kernel
  have h2 : ¬ (kA = kRt) := by decide +kernel
  have h3 : ¬ (kA = kM) := by decide +kernel
  have h4 : ¬ (kF = kRt) := by decide +kernel
  have h5 : ¬ (kF = kM) := by decide +kernel
  have h6 : ¬ (kRt = kM) := by decide +kernel
  simp [mergeK, putK, h1, h2, h3, h4, h5, h6, thL]
theorem sqT_updD {H : Hp} {b l : Addr} {xs : List V} {ys : List (Key × V)} {o : HO} (h : SqT K H b xs) (hl : H l = some (.dK ys)) : SqT K (upd H l o) b xs := by
  have ne : ∀ u, H b = some u → (∀ zs, u ≠ .dK zs) → b ≠ l := fun u hu hn z => by
    rw [z, hl] at hu
    cases hu
    exact hn _ rfl
  rcases h with (h | ⟨ob, h⟩) | h
  · exact .inl (.inl (by rw [upd_ne (ne _ h fun zs z => nomatch z)]; exact h))
  · exact .inl (.inr ⟨ob, by rw [upd_ne (ne _ h fun zs z => nomatch z)]; exact h⟩)
  · exact .inr h
def spThing (K : PySem.W.Frag) : Sp := fun vs H Q _ => ∃ (p c : Addr) (ns : List Int) (B : Nat) (base : Int), vs = [.ref p, .int base] ∧ Pen H p c ns B ∧ B + 100 ≤ 1000000000 ∧ 0 ≤ base ∧ Sz 200 base ∧
  ∀ (t : Addr) (th : Thing) (H' : Hp), Pen H' p c ns (B + 40) → But p H H' → H t = none → t ≠ p → ThgAt K H' t th → TGood th base → Q (.ref t) H'
abbrev s_thing : Stmt := top 48
abbrev N_thing : List Str := ["_law_pen_here", "_law_base_here", "_law_found", "_law_j", "_law_scale", "_law_amount"]
theorem sc_thing : FnScope N_thing ["_law_pen_here", "_law_base_here"] (defScope s_thing) := ⟨rfl, rfl, rfl, by decide +kernel, rfl, by decide +kernel, by decide +kernel⟩

theorem ok_thing (F : Fun K "_law_thing" "_law_thing" s_thing f fd) (T : Blt mg) (G_draw : Has P w K mg base 1 "_law_draw" ["_law_pen_here", "_law_many"] spDraw) (G_pick : Has P w K mg base 2 "_law_pick" ["_law_pen_here", "_law_options"] (spPick K)) : FnOk P w K mg base CX0 3 f fd ["_law_pen_here", "_law_base_here"] (spThing K) := by
  refine F.ok sc_thing (fun vs H Q E h => ?_) (fun cdv A outer s H vs Q E hr h => ?_)
  · obtain ⟨_, _, _, _, _, rfl, _⟩ := h
    rfl
  · obtain ⟨p, c, ns, B, ba, rfl, P0, hB, b0, zb, k⟩ := h
    have hu := hu_of hr
    refine ⟨_, (pss_cons (ps_set (i := 2) sc_thing.nd rfl (Or.inl rfl) (pe_lst pa_nil))
    (pss_cons (ps_for PassesOwn.never rfl (pi_range1 (by rfl) T.range_ (pa_cons (pe_has G_draw (hr.mono (by decide)) (pa_cons (pv 0) (pa_cons pe_int pa_nil))) pa_nil)) (pg_name (i := 3) sc_thing.nd rfl (Or.inl rfl))
      (pss_cons (ps_set (i := 4) sc_thing.nd rfl (Or.inl rfl) (pe_has G_pick (hr.mono (by decide)) (pa_cons (pv 0) (pa_cons (pe_lst (pa_cons pe_int (pa_cons pe_int (pa_cons pe_int (pa_cons pe_int (pa_cons pe_int pa_nil)))))) pa_nil))))
      (pss_one (ps_expr (pe_bm PySem.F.plainAttrs_list PySem.F.slot_list_append PySem.F.type_list_append mt_append (pv 2) (pa_cons (pe_tup (pa_cons (pv 4) (pa_cons (pe_op op_add (pe_op op_mulW (pv 4) (pe_op op_sub (pe_op op_add (pv 1) (pe_has G_draw (hr.mono (by decide)) (pa_cons (pv 0) (pa_cons pe_int pa_nil)))) pe_int)) (pe_has G_draw (hr.mono (by decide)) (pa_cons (pv 0) (pa_cons (pv 4) pa_nil)))) pa_nil))) pa_nil))))))
    (Evl.pss_cut (ps_if (PW.pt (pw_and (pt_cmpR op_eq (pe_callB (show CallR _ _ (rLenQ K) from c_len) (by rfl) T.len_ (by decide +kernel) (pa_cons (pv 2) pa_nil)) pe_int (nomark _)) (pw_and1 (pt_cmpR op_eq (pe_has G_draw (hr.mono (by decide)) (pa_cons (pv 0) (pa_cons pe_int pa_nil))) pe_int (nomark _)))))
      (pss_one (ps_expr (pe_bm PySem.F.plainAttrs_list PySem.F.slot_list_append PySem.F.type_list_append mt_append (pv 2) (pa_cons (pe_ix (show IxR _ (rIxL K) from ix_list) (pv 2) pe_int (fun _ _ => rfl)) pa_nil))))
      pss_nil)
    (pss_cons (ps_set (i := 5) sc_thing.nd rfl (Or.inl rfl) (pe_op op_mulW (pe_op op_sub pe_int (pe_op op_mulW pe_int (pe_has G_draw (hr.mono (by decide)) (pa_cons (pv 0) (pa_cons pe_int pa_nil))))) (pe_has G_pick (hr.mono (by decide)) (pa_cons (pv 0) (pa_cons (pe_lst (pa_cons pe_int (pa_cons pe_int (pa_cons pe_int (pa_cons (pe_op op_add (pe_op op_pow pe_int pe_int) pe_int) pa_nil))))) pa_nil)))))
    (pss_one (ps_ret (pe_disp (pps_cons pe_str (pv 5) (pps_cons pe_str (pv 2) (pps_cons pe_str (pe_op op_sub (pe_op op_add (pv 1) (pe_has G_draw (hr.mono (by decide)) (pa_cons (pv 0) (pa_cons pe_int pa_nil)))) pe_int) (pps_cons pe_str (pe_has G_draw (hr.mono (by decide)) (pa_cons (pv 0) (pa_cons pe_int pa_nil))) pps_nil)))) (by rfl) (by rfl) (fun z => by cases z) (by decide)))))))), ?_⟩
    refine ⟨(by show 0 ≤ sizeLine; decide), fun g ng => ?_⟩
    have ngp := P0.nep ng
    have P1 := P0.new (u := .lst []) ng
    have bt1 := (But.refl p H).new (.lst []) ng
    have hg1 : FacAt K (L2.upd H g (.lst [])) g [] [] := ⟨upd_same, rfl, fun i b q h => by simp at h⟩
    have ngc := P0.nec ng
    generalize L2.upd H g (.lst []) = H1 at P1 bt1 hg1 ⊢
    refine ⟨_, rfl, p, c, ns, B, 3, rfl, P1, by omega, by decide, lit8 _ (by decide) (by decide), fun m0 H2 m1 m2 P2 b2 => ?_⟩
    obtain ⟨m, rfl⟩ := Int.eq_ofNat_of_zero_le m1
    have hg2 : FacAt K H2 g [] [] := ⟨b2 _ _ hg1.1 ngp, rfl, fun i b q h => by simp at h⟩
    refine ⟨(m : Int), rfl, by omega, by omega, ?_⟩
    rw [Int.toNat_natCast]
    refine for_range (lo := 0) (n := m) (fun i σ H' => ∃ (v3 v4 : Option V) (bs : List Addr) (fs : List (Int × Int)), σ = [some (.ref p), some (.int ba), some (.ref g), v3, v4, none] ∧ Pen H' p c ns (B + 1 + 4 * i) ∧ But p H H' ∧ FacAt K H' g bs fs ∧ FsOk ba fs ∧ fs.length = i) ⟨none, none, [], [], rfl, P2.more (by omega) (by omega), bt1.trans b2, hg2, (fun q hq => by cases hq), rfl⟩ ?_ ?_
    · rintro i σ H3 hi ⟨v3, v4, bs, fs, rfl, P3, b3, hg3, ok3, l3⟩
      refine ⟨_, rfl, (by show 5 ≤ sizeLine; decide), fun l nl => ?_⟩
      have s4 := same_new (Same.refl H3) (.lst [.int 1, .int 1, .int 1, .int 2, .int 3]) nl
      refine ⟨p, c, ns, _, l, _, rfl, P3.same s4, by omega, .inl (SqL.of upd_same), by simp, by simp, fun x hx H4 P4 b4 => ?_⟩
      obtain ⟨sc, rfl, sc1, sc3⟩ : ∃ sc, x = .int sc ∧ 1 ≤ sc ∧ sc ≤ 3 := by
        simp at hx
        rcases hx with rfl | rfl | rfl <;> exact ⟨_, rfl, by decide, by decide⟩
      have b34 := (same_but (p := p) s4).trans b4
      have hg4 := b34 _ _ hg3.1 ngp
      have lb : bs.length ≤ 2 := by rw [hg3.2.1]; omega
      refine ⟨_, rfl, .inl ⟨rfl, _, SqL.of hg4⟩, _, rfl, _, rfl, _, rfl, _, rfl, p, c, ns, _, 12, rfl, P4, by omega, by decide, lit8 _ (by decide) (by decide), fun d H5 d0 d1 P5 b5 => ?_⟩
      have zs : Sz 2 sc := by unfold Sz; omega
      have zd : Sz 203 (ba + d - 2) := by
        unfold Sz at zb ⊢
        omega
      refine ⟨_, _, rfl, rfl, _, _, rfl, rfl, _, _, rfl, rfl, zs.mulOk zd (by decide), _, rfl, _, rfl, p, c, ns, _, sc, rfl, P5, by omega, by omega, lit8 _ (by omega) (by omega), fun e H6 e0 e1 P6 b6 => ?_⟩
      have b46 := b5.trans b6
      have hg6 := b46 _ _ hg4 ngp
      refine ⟨_, _, rfl, rfl, (by show 2 ≤ sizeLine; decide), fun u nu => ?_⟩
      have s7 := same_new (Same.refl H6) (.tup [.int sc, .int (sc * (ba + d - 2) + e)]) nu
      have hu7 : SqT K (L2.upd H6 u (.tup [.int sc, .int (sc * (ba + d - 2) + e)])) u [.int sc, .int (sc * (ba + d - 2) + e)] := SqT.of upd_same
      have hg7 := s7 _ _ hg6
      have b37 := (b34.trans b46).trans (same_but s7)
      refine ⟨g, _, _, rfl, rfl, hg7, small1000 (by rw [List.length_map]; omega), ?_⟩
      have fo := fac_ok zb b0 sc1 sc3 d0 d1 e0 e1
      refine ⟨_, _, bs ++ [u], fs ++ [(sc, sc * (ba + d - 2) + e)], rfl, (((P6.same s7).stay (upd_ne ngp.symm) (upd_ne ngc.symm)).more (by omega) (by omega)), but_new (b3.trans b37) ng, hg3.snoc (P3.kp b37) hu7 hg7, fun q hq => ?_, by rw [List.length_append, l3]; rfl⟩
      rcases List.mem_append.mp hq with h | h
      · exact ok3 q h
      · simp at h
        rw [h]
        exact ⟨sc1, sc3, fo⟩
    · rintro σ H3 ⟨v3, v4, bs, fs, rfl, P3, b3, hg3, ok3, l3⟩
      have lb : bs.length = m := by rw [hg3.2.1]; exact l3
      refine ⟨fun σ H' => ∃ (v3 v4 : Option V) (bs : List Addr) (fs : List (Int × Int)), σ = [some (.ref p), some (.int ba), some (.ref g), v3, v4, none] ∧ Pen H' p c ns (B + 20) ∧ But p H H' ∧ FacAt K H' g bs fs ∧ FsOk ba fs ∧ fs.length ≤ 2, ?_, ?_⟩
      · refine ⟨_, rfl, g, _, rfl, .inl (SqL.of hg3.1), rfl, _, rfl, ite2 (fun h0 => ?_) (fun h0 => ?_)⟩
        · have e : bs.length = 1 := by
            have : ((bs.map V.ref).length : Int) = 1 := by simpa using h0
            rw [List.length_map] at this
            omega
          refine ⟨_, rfl, p, c, ns, _, 3, rfl, P3, by omega, by decide, lit8 _ (by decide) (by decide), fun d H4 d0 d1 P4 b4 => ⟨rfl, _, rfl, ite2 (fun h1 => ?_) (fun h1 => ?_)⟩⟩
          · have hg4 := b4 _ _ hg3.1 ngp
            obtain ⟨b0', rfl⟩ : ∃ b, bs = [b] := by
              match bs, e with
              | [b], _ => exact ⟨b, rfl⟩
            obtain ⟨q0, rfl⟩ : ∃ q, fs = [q] := by
              have : fs.length = 1 := by rw [← hg3.2.1]; rfl
              match fs, this with
              | [q], _ => exact ⟨q, rfl⟩
            have K4 := P3.kp (K := K) b4
            refine ⟨_, rfl, .inl ⟨rfl, _, SqL.of hg4⟩, _, rfl, g, _, (0 : Int), _, rfl, rfl, SqL.of hg4, rfl, g, _, _, rfl, rfl, hg4, (by show 1 < sizeLine; decide), ?_⟩
            exact ⟨_, _, [b0'] ++ [b0'], [q0] ++ [q0], rfl, ((P4.stay (upd_ne ngp.symm) (upd_ne ngc.symm)).more (by omega) (by omega)), but_new (b3.trans b4) ng, hg3.snoc K4 (K4.t _ _ (hg3.2.2 0 b0' q0 rfl rfl)) hg4, fun q hq => ok3 q (by simp at hq ⊢; exact hq), by simp⟩
          · exact ⟨_, _, bs, fs, rfl, P4.more (by omega) (by omega), b3.trans b4, hg3.kp (P3.kp b4) (b4 _ _ hg3.1 ngp), ok3, by omega⟩
        · exact ⟨_, _, bs, fs, rfl, P3.more (by omega) (by omega), b3, hg3, ok3, by omega⟩
      clear ok3 hg3 b3 P3 lb l3
      rintro σ H4 ⟨v3, v4, bs, fs, rfl, P4, b4, hg4, ok4, l4⟩
      refine ⟨_, rfl, p, c, ns, _, 2, rfl, P4, by omega, by decide, lit8 _ (by decide) (by decide), fun d H5 d0 d1 P5 b5 => ?_⟩
      have zd2 : Sz 2 d := by unfold Sz; omega
      refine ⟨_, _, rfl, rfl, Sz.mulOk (a := 2) (b := 2) (by unfold Sz; decide) zd2 (by decide), _, _, rfl, rfl, ?_⟩
      refine ⟨_, rfl, _, _, rfl, rfl, ⟨by decide, by decide, by decide⟩, _, _, rfl, rfl, (by show 4 ≤ sizeLine; decide), fun l nl => ?_⟩
      have s6 := same_new (Same.refl H5) (.lst [.int 1, .int 1, .int 2, .int (10 ^ (60 : Int).toNat + 7)]) nl
      refine ⟨p, c, ns, _, l, _, rfl, P5.same s6, by omega, .inl (SqL.of upd_same), by simp, by simp, fun x hx H6 P6 b6 => ?_⟩
      obtain ⟨A0, rfl, zA⟩ : ∃ A0, x = .int A0 ∧ Sz 200 A0 := by
        simp only [List.mem_cons, List.not_mem_nil, or_false] at hx
        rcases hx with rfl | rfl | rfl | rfl
        · exact ⟨_, rfl, by unfold Sz; decide +kernel⟩
        · exact ⟨_, rfl, by unfold Sz; decide +kernel⟩
        · exact ⟨_, rfl, by unfold Sz; decide +kernel⟩
        · exact ⟨_, rfl, by unfold Sz; decide +kernel⟩
      have b56 := (same_but (p := p) s6).trans b6
      have z1 : Sz 2 (1 - 2 * d) := by unfold Sz; omega
      refine ⟨_, _, rfl, rfl, z1.mulOk zA (by decide), ?_⟩
      have zAA : Sz 202 ((1 - 2 * d) * A0) := z1.mul zA
      intro t nt
      have ntp := P6.nep nt
      have ntc := P6.nec nt
      have P7 := P6.new (u := .dK []) nt
      have b46 := b5.trans b56
      have b47 : But p H4 (L2.upd H6 t (.dK [])) := b46.new _ nt
      have ht7 : (L2.upd H6 t (.dK [])) t = some (.dK []) := upd_same
      have ht0 : H t = none := by
        cases e : H t with
        | none => rfl
        | some o =>
          have := (b4.trans b46) t o e ntp
          rw [nt] at this
          cases this
      generalize L2.upd H6 t (.dK []) = H7 at P7 b47 ht7 ⊢
      refine ⟨_, rfl, _, rfl, _, rfl, _, rfl, p, c, ns, _, 9, rfl, P7, by omega, by decide, lit8 _ (by decide) (by decide), fun r0 H8 r1 r2 P8 b8 => ?_⟩
      refine ⟨_, _, rfl, rfl, _, _, rfl, rfl, _, rfl, p, c, ns, _, 3, rfl, P8, by omega, by decide, lit8 _ (by decide) (by decide), fun mm H9 m3 m4 P9 b9 => ?_⟩
      obtain ⟨mn, rfl⟩ := Int.eq_ofNat_of_zero_le m3
      have b79 := b8.trans b9
      have ht9 := b79 _ _ ht7 ntp
      refine ⟨ht9, [(kA, .int ((1 - 2 * d) * A0)), (kF, .ref g), (kRt, .int (ba + r0 - 2)), (kM, .int (mn : Int))], rfl, (by show 4 ≤ 15; decide), ?_⟩
      rw [th_mk]
      have b49 := b47.trans b79
      have gt : g ≠ t := fun z => by
        have h1 := b46 _ _ hg4.1 ngp
        rw [z, nt] at h1
        cases h1
      have K49 := P4.kp (K := K) b49
      refine k t ⟨(1 - 2 * d) * A0, fs, ba + r0 - 2, mn⟩ _ ((P9.stay (upd_ne ntp.symm) (upd_ne ntc.symm)).more (by omega) (by omega)) (but_new (b4.trans b49) ht0) ht0 ntp ⟨g, bs, upd_same, by rw [upd_ne gt]; exact b49 _ _ hg4.1 ngp, hg4.2.1, fun i b q e1 e2 => sqT_updD (K49.t _ _ (hg4.2.2 i b q e1 e2)) ht9⟩ ?_
      exact ⟨by show mn ≤ 2; omega, l4, b0, zb, by show ba - 2 ≤ ba + r0 - 2; omega, by show ba + r0 - 2 ≤ ba + 6; omega, zAA, ok4⟩
end
end EN

namespace EN
open PySem L2 PyProof.Rows
section
variable {P : Program} {w : World} {K : PySem.W.Frag} {mg : Str → Option Value} {base : Heap} {f : Addr} {fd : FuncData}
open SG
def oD : Option Int → PyData
  | none => .none
  | some h => .int h
def trD (t : Tr) : PyData := .tuple [.int t.1, oD t.2.1, .int t.2.2]
theorem tr_dp {H : Hp} {b : Addr} {t : Tr} (h : SqT K H b [.int t.1, oV t.2.1, .int t.2.2]) : Dp K H (.ref b) (trD t) := by
  refine .tup h (.cons (.int _) (.cons ?_ (.cons (.int _) .nil)))
  obtain ⟨lo, hi, m⟩ := t
  cases hi
  · exact .non
  · exact .int _
theorem TrsAt.dps {H : Hp} : ∀ {bs : List Addr} {ts : List Tr}, TrsAt K H bs ts → DpAll K H (bs.map V.ref) (ts.map trD)
  | [], [], _ => .nil
  | [], _ :: _, h => by have := h.1; simp at this
  | _ :: _, [], h => by have := h.1; simp at this
  | b :: bs, t :: ts, h => .cons (tr_dp (h.2 0 b t rfl rfl)) (TrsAt.dps ⟨by have := h.1; simpa using this, fun i c q e1 e2 => h.2 (i + 1) c q e1 e2⟩)
theorem lay_tr (t : Tr) : PyData.canLay0 (trD t) = true ∧ PyData.depth (trD t) = 1 := by
  obtain ⟨lo, hi, m⟩ := t
  cases hi
  · exact ⟨by simp [trD, oD, PyData.canLay0, PyData.canLayAll0], by simp [trD, oD, PyData.depth, PyData.depthAll]⟩
  · exact ⟨by simp [trD, oD, PyData.canLay0, PyData.canLayAll0], by simp [trD, oD, PyData.depth, PyData.depthAll]⟩
theorem lay_trs : ∀ S : List Tr, PyData.canLayAll0 (S.map trD) = true ∧ PyData.depthAll (S.map trD) ≤ 1
  | [] => ⟨by simp [PyData.canLayAll0], by simp [PyData.depthAll]⟩
  | q :: S => by
    obtain ⟨h1, h2⟩ := lay_tr q
    obtain ⟨g1, g2⟩ := lay_trs S
    refine ⟨by simp [PyData.canLayAll0, h1, g1], ?_⟩
    rw [List.map_cons, PyData.depthAll, h2]
    omega
theorem shaped_trs (S : List Tr) : SeqAt.shaped (.list (S.map trD)) = true := by
  obtain ⟨h1, h2⟩ := lay_trs S
  unfold SeqAt.shaped
  rw [PyData.canLay0, h1, PyData.depth, decide_eq_true (by omega)]
  rfl
theorem eqv_trs_nil (S : List Tr) : PyData.eqv (.list (S.map trD)) (.list []) = decide (S = []) := by
  cases S with
  | nil => simp [PyData.eqv, PyData.eqvAll]
  | cons q S => simp [PyData.eqv, PyData.eqvAll]
theorem eqv_tr (a b : Tr) : PyData.eqv (trD a) (trD b) = decide (a = b) := by
  obtain ⟨a1, a2, a3⟩ := a
  obtain ⟨b1, b2, b3⟩ := b
  have eb : ∀ x y : Int, (x == y) = decide (x = y) := fun x y => by rw [Bool.eq_iff_iff]; simp
  cases a2 <;> cases b2 <;> simp [trD, oD, PyData.eqv, PyData.eqvAll, Bool.decide_and, eb]
theorem eqv_trs : ∀ S U : List Tr, PyData.eqvAll (S.map trD) (U.map trD) = decide (S = U)
  | [], [] => by simp [PyData.eqvAll]
  | [], _ :: _ => by simp [PyData.eqvAll]
  | _ :: _, [] => by simp [PyData.eqvAll]
  | a :: F, b :: G => by
    have h1 := eqv_trs F G
    rw [List.map_cons, List.map_cons, PyData.eqvAll, h1, eqv_tr a b]
    by_cases e1 : a = b <;> by_cases e2 : F = G <;> simp [e1, e2]
abbrev s_joined : Stmt := top 51
abbrev N_joined : List Str := ["_law_parts", "_law_found", "_law_low", "_law_high", "_law_mark"]
theorem sc_joined : FnScope N_joined ["_law_parts"] (defScope s_joined) := ⟨rfl, rfl, rfl, by decide +kernel, rfl, by decide +kernel, by decide +kernel⟩

theorem ok_joined (F : Fun K "_law_joined" "_law_joined" s_joined f fd) (T : Blt mg) : FnOk P w K mg base CX0 1 f fd ["_law_parts"] (spJoinS K) := by
  refine F.ok sc_joined (fun vs H Q E h => ?_) (fun cdv A outer s H vs Q E hr h => ?_)
  · obtain ⟨_, _, _, rfl, _⟩ := h
    rfl
  · obtain ⟨a, bs, ts, rfl, hS, hA, hl, k⟩ := h
    refine ⟨_, (pss_cons (ps_set (i := 1) sc_joined.nd rfl (Or.inl rfl) (pe_lst pa_nil))
    (pss_cons (ps_for PassesOwn.never rfl (pi_list (pv 0)) (pg_tup rfl (pgs_cons (pg_name (i := 2) sc_joined.nd rfl (Or.inl rfl)) (pgs_cons (pg_name (i := 3) sc_joined.nd rfl (Or.inl rfl)) (pgs_cons (pg_name (i := 4) sc_joined.nd rfl (Or.inl rfl)) pgs_nil))))
      (pss_one (ps_if (PW.pt (pw_and (pt_cmpR (show OpR _ _ (rNeD K) from op_neD hr.units) (pv 1) (pe_lst pa_nil) (nomark _)) (pw_and1 (pt_cmpR op_eq (pe_ix (show IxR _ (rIxT K) from ix_tup) (pe_ix (show IxR _ (rIxL K) from ix_list) (pv 1) (pe_un un_neg pe_int) (fun _ _ => rfl)) pe_int (fun _ _ => rfl)) (pv 4) (nomark _)))))
        (pss_one (ps_asg (pe_tup (pa_cons (pe_ix (show IxR _ (rIxT K) from ix_tup) (pe_ix (show IxR _ (rIxL K) from ix_list) (pv 1) (pe_un un_neg pe_int) (fun _ _ => rfl)) pe_int (fun _ _ => rfl)) (pa_cons (pv 3) (pa_cons (pv 4) pa_nil)))) (pg_sub (pv 1) (pe_un un_neg pe_int) set_list)))
        (pss_one (ps_expr (pe_bm PySem.F.plainAttrs_list PySem.F.slot_list_append PySem.F.type_list_append mt_append (pv 1) (pa_cons (pe_tup (pa_cons (pv 2) (pa_cons (pv 3) (pa_cons (pv 4) pa_nil)))) pa_nil)))))))
    (pss_one (ps_ret (pv 1))))), ?_⟩
    refine ⟨(by show 0 ≤ sizeLine; decide), fun d hd => ?_⟩
    have s0 := same_new (Same.refl H) (.lst []) hd
    refine ⟨_, rfl, a, rfl, ⟨_, s0.seq hS⟩, ?_⟩
    refine for_list (K := K) (a := a) (xs := bs.map V.ref) (fun i σ H' => ∃ (cs : List Addr) (v2 v3 v4 : Option V), σ = [some (.ref a), some (.ref d), v2, v3, v4] ∧ Same H H' ∧ H' d = some (.lst (cs.map V.ref)) ∧ TrsAt K H' cs ((ts.take i).foldl jst [])) ⟨[], none, none, none, rfl, s0, upd_same, TrsAt.nil⟩ (fun i σ H' _ h => by obtain ⟨_, _, _, _, _, s1, _⟩ := h; exact s1.seq hS) ?_ ?_
    · rintro i x σ H1 hx ⟨cs, v2, v3, v4, rfl, s1, hd1, hP⟩
      have il : i < ts.length := by
        have := (List.getElem?_eq_some_iff.mp hx).1
        rwa [List.length_map, hA.1] at this
      obtain ⟨b, t, eb, et, hb⟩ := hA.get il
      rw [List.getElem?_map, eb] at hx
      cases hx
      obtain ⟨lo, hi, m⟩ := t
      have hb1 := sqT_same s1 hb
      have tk : (ts.take (i + 1)).foldl jst [] = jst ((ts.take i).foldl jst []) (lo, hi, m) := by rw [List.take_succ, et, List.foldl_append]; rfl
      have lc : cs.length ≤ 900 := by
        have h1 := fold_len (ts.take i) []
        rw [hP.1]
        rw [List.length_take] at h1
        simp at h1
        omega
      rw [tk]
      generalize (ts.take i).foldl jst [] = acc at hP
      refine ⟨b, _, rfl, hb1, rfl, _, _, rfl, _, _, rfl, _, _, rfl, rfl, ?_⟩
      refine ⟨_, rfl, (by show 0 ≤ sizeLine; decide), fun e he => ?_⟩
      have se := same_new (Same.refl H1) (.lst []) he
      replace hd1 := se _ _ hd1
      replace hP := hP.same se
      replace s1 := s1.trans se
      have he2 : (L2.upd H1 e (.lst [])) e = some (.lst []) := upd_same
      generalize L2.upd H1 e (.lst []) = H2 at se hd1 hP he2 s1 ⊢
      clear se hb1 he
      have app : ∀ (u : Addr), H2 u = none → (jst acc (lo, hi, m) = acc ++ [(lo, hi, m)]) → ∃ (cs2 : List Addr) (v2 v3 v4 : Option V), [some (.ref a), some (.ref d), some (.int lo), some (oV hi), some (.int m)] = [some (V.ref a), some (.ref d), v2, v3, v4] ∧ Same H (L2.upd (L2.upd H2 u (.tup [.int lo, oV hi, .int m])) d (.lst (cs.map V.ref ++ [.ref u]))) ∧ (L2.upd (L2.upd H2 u (.tup [.int lo, oV hi, .int m])) d (.lst (cs.map V.ref ++ [.ref u]))) d = some (.lst (cs2.map V.ref)) ∧ TrsAt K (L2.upd (L2.upd H2 u (.tup [.int lo, oV hi, .int m])) d (.lst (cs.map V.ref ++ [.ref u]))) cs2 (jst acc (lo, hi, m)) := fun u nu e => by
        have s2 := same_new (Same.refl H2) (.tup [.int lo, oV hi, .int m]) nu
        refine ⟨cs ++ [u], _, _, _, rfl, same_but_new (s1.trans s2) hd, by rw [upd_same, List.map_append]; rfl, ?_⟩
        rw [e]
        exact (TrsAt.snoc (hP.same s2) (SqT.of upd_same)).upd (s2 _ _ hd1)
      rcases List.eq_nil_or_concat acc with rfl | ⟨G, g, rfl⟩
      · have e0 : cs = [] := List.eq_nil_of_length_eq_zero hP.1
        subst e0
        refine ⟨_, _, .lst (SqL.of hd1) (TrsAt.dps hP), .lst (SqL.of he2) .nil, shaped_trs _, shaped_trs [], false, by rw [eqv_trs_nil]; rfl, iteF ?_⟩
        refine iteF ?_
        refine ⟨_, rfl, .inl ⟨rfl, _, SqL.of hd1⟩, _, rfl, _, rfl, _, rfl, (by show 3 ≤ sizeLine; decide), fun u nu => ?_⟩
        have s2 := same_new (Same.refl H2) (.tup [.int lo, oV hi, .int m]) nu
        exact ⟨d, _, _, rfl, rfl, s2 _ _ hd1, (by show 0 < sizeLine; decide), app u nu rfl⟩
      · rw [List.concat_eq_append] at hP app ⊢
        obtain ⟨cs', b2, rfl, hP', hb2⟩ := hP.split
        have ne : !((cs' ++ [b2]).map V.ref).isEmpty = true := by cases cs' <;> rfl
        have dps := TrsAt.dps hP
        rw [List.map_append] at hd1 app dps
        refine ⟨_, _, .lst (SqL.of hd1) dps, .lst (SqL.of he2) .nil, shaped_trs _, shaped_trs [], true, by rw [eqv_trs_nil, decide_eq_false (by simp)]; rfl, iteT ?_⟩
        refine ⟨_, rfl, 1, rfl, d, _, _, _, rfl, rfl, SqL.of hd1, at_last, b2, _, 2, _, rfl, rfl, hb2, rfl, _, rfl, rfl, ?_⟩
        by_cases em : g.2.2 = m
        · refine ⟨true, congrArg V.bl (decide_eq_true (congrArg V.int em)), iteT ?_⟩
          refine ⟨_, rfl, 1, rfl, d, _, _, _, rfl, rfl, SqL.of hd1, at_last, b2, _, 0, _, rfl, rfl, hb2, rfl, _, rfl, _, rfl, (by show 3 ≤ sizeLine; decide), fun u nu => ?_⟩
          have s2 := same_new (Same.refl H2) (.tup [.int g.1, oV hi, .int m]) nu
          have hd2 := s2 _ _ hd1
          have ez : (cs'.map V.ref ++ [V.ref b2]).set cs'.length (.ref u) = cs'.map V.ref ++ [V.ref u] := by
            simp
          refine ⟨_, rfl, 1, rfl, d, _, _, cs'.length, rfl, rfl, hd2, by rw [List.length_append, List.length_map]; exact ixN_last cs'.length, ?_⟩
          rw [show [b2].map V.ref = [V.ref b2] from rfl, ez]
          refine ⟨cs' ++ [u], _, _, _, rfl, same_but_new (s1.trans s2) hd, by rw [upd_same, List.map_append]; rfl, ?_⟩
          rw [jst_snoc, if_pos em]
          exact (TrsAt.snoc (hP'.same s2) (SqT.of upd_same)).upd hd2
        · refine ⟨false, congrArg V.bl (decide_eq_false fun z => em (V.int.inj z)), iteF ?_⟩
          refine ⟨_, rfl, .inl ⟨rfl, _, SqL.of hd1⟩, _, rfl, _, rfl, _, rfl, (by show 3 ≤ sizeLine; decide), fun u nu => ?_⟩
          have s2 := same_new (Same.refl H2) (.tup [.int lo, oV hi, .int m]) nu
          exact ⟨d, _, _, rfl, rfl, s2 _ _ hd1, small1000 (by simp at lc ⊢; omega), app u nu (by rw [jst_snoc, if_neg em])⟩
    · rintro σ H1 ⟨cs, v2, v3, v4, rfl, s1, hd1, hP⟩
      rw [List.length_map, hA.1, List.take_length] at hP
      exact ⟨_, rfl, k d cs H1 s1 hd hd1 hP⟩
end
end EN

/-! set(a list of ints), of which sorted asks -/
namespace ZS
open PySem PySem.Spec PyProof.Rows L2
theorem few_of : ∀ {l T : List Int}, l.Nodup → (∀ k ∈ l, k ∈ T) → l.length ≤ T.length
  | [], _, _, _ => Nat.zero_le _
  | a :: l, T, hn, hs => by
    obtain ⟨h1, h2⟩ := List.nodup_cons.mp hn
    have ha : a ∈ T := hs a List.mem_cons_self
    have ih := few_of (l := l) (T := T.erase a) h2 fun k hk => (List.mem_erase_of_ne (fun (z : k = a) => h1 (by rw [← z]; exact hk))).mpr (hs k (List.mem_cons_of_mem _ hk))
    have := List.length_erase_of_mem ha
    have := List.length_pos_of_mem ha
    simp only [List.length_cons]
    omega
theorem few {w : World} {h : Heap} {a : Addr} {S : Int → Bool} {n : Nat} (R : SetR w h a S n) {T : List Int} (hT : ∀ k, S k = true → k ∈ T) : n ≤ T.length := by
  obtain ⟨o, es, ep, t, _, _, _, _, nd, hm, _, _, hn, _⟩ := R
  have := few_of nd fun k hk => hT k ((hm k).mpr hk)
  rw [List.length_map, Array.length_toList] at this
  omega
/-- the set before its first member -/
def bare (w : World) : Obj := { cls := .type "set", dict := none, data := .set #[] 0 (.fresh 0 0 (!w.params.followText "set-order")) }
section
variable {P : Program} {w : World} {A : Around} {E : Value → Shared → Prop} {s : Shared}
abbrev hp1 (w : World) (s : Shared) : Heap := s.heap.push (bare w)
theorem bare_new (ns : List Int) {h : Heap} {a : Addr} (ho : h.get? a = some (bare w)) : SetR w h a (fun j => decide (j ∈ ns.take 0)) 0 := setR_new_at ho
theorem code_bare (a : Value) {Q1 : Value → Shared → Prop} (h : Q1 (.ref s.heap.objs.size) { s with heap := hp1 w s }) :
    codeAny (model P w) A (.call (.builtin "set.__new__") ⟨[.type "set", a], []⟩) (wants Q1 E) s := code_set_led1 a h
set_option maxHeartbeats 3200000 in
theorem set_list_ints {l : Addr} {items : Array Value} (ns : List Int) {Q : Value → Shared → Prop} (calm : A.handled = none) (at_ : s.heap.IsList l items) (are : IntsAre items.toList ns) (room : ns.length + 1 < scanBound)
    (goal : ∀ (h2 : Heap) (tk c : Nat), SetR w h2 s.heap.objs.size (fun j => decide (j ∈ ns)) c → c ≤ ns.length → (∀ b o, s.heap.get? b = some o → h2.get? b = some o) → Q (.ref s.heap.objs.size) { s with heap := h2, toks := tk }) :
    wpAny (model P w) A (call (.type "set") [.ref l]) Q E s := by
  have many : items.size = ns.length := by
    rw [← Array.length_toList]
    exact IntsAre.length are
  obtain ⟨cl, below, mro⟩ := PySem.F.called_set.mro
  have made := PySem.F.called_set.made
  have subOf := PySem.F.called_set.sub
  have noType := PySem.F.called_set.notType
  have makes := PySem.F.called_set.canCreate
  have typed := PySem.F.typeCall_set_1 (.ref l)
  refine wpAny_call (codeAny_of_tree ?_)
  show wpAny _ _ (callAny (.type "set") ⟨[.ref l], []⟩) _ _ _
  refine wpAny_pure ⟨Code.quiet_builtin _ (by decide +kernel), codeAny_builtin PySem.F.entry_type_call ?_⟩
  rw [Around.under_plain (weight_type_call_type "set" [Value.ref l] []) rfl]
  repeat (any_goals (first | assumption | wp_step))
  refine codeAny_mono (code_bare (.ref l) (E := E) (Q1 := fun v s1 => v = .ref s.heap.objs.size ∧ s1 = { s with heap := hp1 w s }) ⟨rfl, rfl⟩) fun r s1 hr => ?_
  match r, hr with
  | .error e, hr => exact hr
  | .ok (.ret v), hr =>
    obtain ⟨rfl, rfl⟩ := hr
    have stands : (hp1 w s).get? s.heap.objs.size = some (bare w) := Heap.get?_push_size _ rfl
    have isSet : Shared.TypeIs { s with heap := hp1 w s } (.ref s.heap.objs.size) "set" := ⟨_, stands, rfl⟩
    have look := PySem.F.called_set.init.lookup
    have bound := PySem.F.called_set.init.bind (.ref s.heap.objs.size)
    repeat (any_goals (first | assumption | wp_step))
    refine codeAny_mono (codeAny_call_builtin (R := wants (fun r s2 => r = .none ∧ ∃ h2 tk c, s2 = { s with heap := h2, toks := tk } ∧ SetR w h2 s.heap.objs.size (fun j => decide (j ∈ ns)) c ∧ c ≤ ns.length ∧ ∀ b o, s.heap.get? b = some o → h2.get? b = some o) E)
      PySem.F.called_set.init.plain PySem.F.entry_set_init (check_set_init_1 isSet ?_)) fun r2 s2 hr2 => ?_
    · obtain ⟨⟨ocls, odict, odata, oslots⟩, ol, oc, on, od⟩ := at_
      simp only at oc od
      subst oc
      subst od
      have ol2 : (hp1 w s).get? l = some { cls := .type "list", dict := odict, data := .seq items on, slots := oslots } := Heap.get?_push_of_some _ ol
      have no1 := PySem.F.sub_list_set
      have no2 := PySem.F.sub_list_frozenset
      have no3 : (Value.type "list" == Value.type "dict") = false := by decide
      have list1 : (hp1 w s).IsList l items := ⟨_, ol2, rfl, on, rfl⟩
      unfold Builtin.«set.__init__» noKeywords Builtin.Frozenset.updateFrom
      generalize hIt : pyIter = walker
      wp_walk
      subst hIt
      refine wpAny_pyIter_list list1 (wpAny_bind (wpAny_runValue ?_))
      have lower : l < s.heap.objs.size := Heap.lt_size ol
      have calm3 : A.in1.in1.in1.handled = none := by simp [calm]
      have sz : (hp1 w s).objs.size = s.heap.objs.size + 1 := Heap.size_push ..
      have apart : l ≠ (hp1 w s).objs.size := Nat.ne_of_lt (sz ▸ Nat.lt_succ_of_lt lower)
      have out : s.heap.objs.size ∉ [(hp1 w s).objs.size, l] := by
        simp only [List.mem_cons, List.not_mem_nil, or_false, not_or]
        exact ⟨Nat.ne_of_lt (sz ▸ Nat.lt_succ_self _), Nat.ne_of_gt lower⟩
      have told : ∀ (i : Nat) (v : Value), items[i]? = some v → ∃ k t, ns[i]? = some k ∧ v = .int k t := fun i v hv => by
        have hi : i < ns.length := many ▸ (Array.getElem?_eq_some_iff.mp hv).1
        obtain ⟨t, e⟩ := PyProof.Rows.IntsAre.int_at are i v (Array.getElem?_toList ▸ hv)
        exact ⟨ns[i], t, List.getElem?_eq_getElem hi, by rw [e, List.getD_eq_getElem?_getD, List.getElem?_eq_getElem hi]; rfl⟩
      refine set_update_ints ((Walks.list calm3 _ l apart items).toS) s.heap.objs.size out ns many room told (items.size - 0) 0 _ (by omega) (Nat.zero_le _) ⟨⟨_, Heap.get?_push_size _ rfl, rfl, rfl⟩, list1.push _⟩ ?begin ?ends
      case begin => exact ⟨0, Nat.le_refl 0, bare_new ns (Heap.get?_push_of_some _ stands)⟩
      case ends =>
        rintro ⟨h3, g3, d3, tk3, os3⟩ c3 mv lc3 R3
        obtain rfl : g3 = s.gens := mv.gens
        obtain rfl : d3 = s.drawn := mv.drawn
        obtain rfl : os3 = s.os := mv.os
        refine wpAny_pure ?_
        show wpAny _ _ (ret Value.none) _ _ _
        refine wpAny_pure ⟨rfl, h3, tk3, c3, rfl, R3, many ▸ lc3, fun b o e => ?_⟩
        have b0 : b < s.heap.objs.size := Heap.lt_size e
        refine mv.heap b o ?_ (Heap.get?_push_of_some _ (Heap.get?_push_of_some _ e))
        simp only [List.mem_cons, List.not_mem_nil, or_false, not_or]
        exact ⟨Nat.ne_of_lt b0, Nat.ne_of_lt (sz ▸ Nat.lt_succ_of_lt b0)⟩
    · match r2, hr2 with
      | .error e, hr2 => exact hr2
      | .ok (.ret v), hr2 =>
        obtain ⟨rfl, h2, tk, c, rfl, R2, lc, keep⟩ := hr2
        repeat (any_goals (first | assumption | wp_step))
        exact goal _ _ _ R2 lc keep
end
section
variable {X : Cx}
/-- set(xs), xs a list of ints: its members, and at most as many as any list has that has them all -/
def rSetI (K : PySem.W.Frag) (w : World) : List V → Hp → VK → Prop := fun xs H Q => ∃ (a : Addr) (ns : List Int), xs = [.ref a] ∧ SqL K H a (ns.map V.int) ∧ ns.length + 1 < scanBound ∧
  ∀ (p : Addr) (c : Nat), H p = none → (∀ T : List Int, (∀ k ∈ ns, k ∈ T) → c ≤ T.length) → Q (.ref p) (upd H p (SetO w p (fun j => decide (j ∈ ns)) c))
theorem cr_setI (hc : X.calm = true) : CallR X (.type "set") (rSetI X.K X.w) := by
  intro pins s σ H xs us Q I r h
  obtain ⟨a, ns, rfl, hS, room, q⟩ := h
  rw [Vals.ref1 r]
  obtain ⟨its, rv, ⟨o, n, ho, oc, on, od⟩, hlen⟩ := I.list hS
  refine set_list_ints ns (I.ok.hd hc) (items := its.toArray) ⟨o, ho, oc, n, od⟩ (by simpa using ints_of_vals rv) room fun h2 tk c R lc keep => ?_
  exact ⟨.ref s.heap.objs.size, upd H s.heap.objs.size (SetO X.w s.heap.objs.size (fun j => decide (j ∈ ns)) c), I.laid (t' := tk) keep (Nat.le_refl _) (setO_new R), rfl, q _ _ (I.hok.fresh (Nat.le_refl _)) fun T hT => few R fun k hk => hT k (of_decide_eq_true hk)⟩
end
end ZS

namespace EN
open PySem L2 PyProof.Rows
section
variable {P : Program} {w : World} {K : PySem.W.Frag} {mg : Str → Option Value} {base : Heap} {f : Addr} {fd : FuncData}
open SG
theorem range_at {α β : Type} (S : List α) (g : α → β) {d : α} : ((List.range S.length).map fun i => g (S.getD i d)) = S.map g := by
  refine List.ext_getElem? fun i => ?_
  by_cases h : i < S.length
  · rw [List.getElem?_map, List.getElem?_range h, List.getElem?_map, List.getElem?_eq_getElem h]
    simp [List.getD, List.getElem?_eq_getElem h]
  · rw [List.getElem?_map, List.getElem?_map, List.getElem?_eq_none (by simpa using h), List.getElem?_eq_none (by omega)]
    rfl
def spThingSigns (K : PySem.W.Frag) : Sp := fun vs H Q _ => ∃ (t : Addr) (th : Thing) (base lo : Int) (hi : Option Int), vs = [.ref t, .int lo, oV hi] ∧ ThgAt K H t th ∧ TGood th base ∧ Sz 204 lo ∧ (∀ h, hi = some h → lo ≤ h) ∧
  ∀ (l : Addr) (bs : List Addr) (ts : List Tr) (H' : Hp), Same H H' → H l = none → H' l = some (.lst (bs.map V.ref)) → TrsAt K H' bs ts → Cov th.at lo hi ts → Alt ts → ts.length ≤ 7 → Q (.ref l) H'
abbrev s_thing_signs : Stmt := top 52
abbrev N_thing_signs : List Str := ["_law_thing_here", "_law_low", "_law_high", "_law_seams", "_law_scale", "_law_constant", "_law_starts", "_law_ends", "_law_n", "_law_at", "_law_rim"]
theorem sc_thing_signs : FnScope N_thing_signs ["_law_thing_here", "_law_low", "_law_high"] (defScope s_thing_signs) := ⟨rfl, rfl, rfl, by decide +kernel, rfl, by decide +kernel, by decide +kernel⟩

theorem ok_thing_signs (F : Fun K "_law_thing_signs" "_law_thing_signs" s_thing_signs f fd) (T : Blt mg) (G_thing_at : Has P w K mg base 2 "_law_thing_at" ["_law_thing_here", "_law_n"] (spThingAt K)) (G_lsign : Has P w K mg base 1 "_law_sign" ["_law_amount"] spLSign) (G_joined : Has P w K mg base 1 "_law_joined" ["_law_parts"] (spJoinS K)) :
    FnOk P w K mg base CX0 3 f fd ["_law_thing_here", "_law_low", "_law_high"] (spThingSigns K) := by
  refine F.ok sc_thing_signs (fun vs H Q E h => ?_) (fun cdv A outer s H vs Q E hr h => ?_)
  · obtain ⟨_, _, _, _, _, rfl, _⟩ := h
    rfl
  · obtain ⟨t, th, ba, lo, hi, rfl, hT, g, zlo, lh, k⟩ := h
    have hu := hu_of hr
    refine ⟨_, (pss_cons (ps_set (i := 3) sc_thing_signs.nd rfl (Or.inl rfl) (pe_lst (pa_cons (pv 1) (pa_cons (pe_dget hu (pv 0) pe_str (fun _ _ => rfl)) (pa_cons (pe_op op_add (pe_dget hu (pv 0) pe_str (fun _ _ => rfl)) (pe_dget hu (pv 0) pe_str (fun _ _ => rfl))) pa_nil)))))
    (pss_cons (ps_for PassesOwn.never rfl (pi_list (pe_dget hu (pv 0) pe_str (fun _ _ => rfl))) (pg_tup rfl (pgs_cons (pg_name (i := 4) sc_thing_signs.nd rfl (Or.inl rfl)) (pgs_cons (pg_name (i := 5) sc_thing_signs.nd rfl (Or.inl rfl)) pgs_nil)))
      (pss_one (ps_set (i := 3) sc_thing_signs.nd rfl (Or.inl rfl) (pe_op op_cat (pv 3) (pe_lst (pa_cons (pe_op op_fdivW (pv 5) (pv 4)) (pa_cons (pe_op op_add (pe_op op_fdivW (pv 5) (pv 4)) pe_int) pa_nil)))))))
    (pss_cons (ps_set (i := 6) sc_thing_signs.nd rfl (Or.inl rfl) (pe_callB (show CallR _ _ (rSortedSet w) from cr_sortedSet rfl) (by rfl) T.sorted_ (by decide +kernel) (pa_cons (pe_callTy (show CallR _ _ (ZS.rSetI K w) from ZS.cr_setI rfl) (by rfl) T.set_ (by decide +kernel) (pa_cons (pe_lc (own := [("_law_n", 8)]) (g := gName 8) (by rfl) sc_thing_signs.nd (pi_list (pv 3)) (blkOk_by (own := [("_law_n", 8)]) (N := N_thing_signs) (sc := defScope s_thing_signs) (by decide +kernel)) (fun _ _ _ _ _ => (pg_name (i := 8) sc_thing_signs.nd rfl (by first | exact Or.inl rfl | exact Or.inr rfl))) (fun _ _ _ _ _ => (pts_one (PW.pt (pw_and (pt_cmpR op_ge (pv 8) (pv 1) (nomark _)) (pw_and1 (PW.pt (pw_or (pt_cmpR op_isN (pv 2) pe_non (nomark _)) (pw_or1 (pt_cmpR op_le (pv 8) (pv 2) (nomark _)))))))))) (fun _ _ _ _ _ => (pe_callTy call_int1 (by rfl) T.int_ (by decide +kernel) (pa_cons (pv 8) pa_nil)))) pa_nil)) pa_nil)))
    (pss_cons (ps_set (i := 7) sc_thing_signs.nd rfl (Or.inl rfl) (pe_op op_cat (pe_lc (own := [("_law_n", 8)]) (g := gName 8) (tt := tYes) (by rfl) sc_thing_signs.nd (pi_list (pe_slice (show SlR _ (rSlL K) from sl_list) (pv 6) (po_some pe_int) po_none)) (blkOk_by (own := [("_law_n", 8)]) (N := N_thing_signs) (sc := defScope s_thing_signs) (by decide +kernel)) (fun _ _ _ _ _ => (pg_name (i := 8) sc_thing_signs.nd rfl (by first | exact Or.inl rfl | exact Or.inr rfl))) (fun _ _ _ _ _ => pts_nil) (fun _ _ _ _ _ => (pe_op op_sub (pv 8) pe_int))) (pe_lst (pa_cons (pv 2) pa_nil))))
    (pss_one (ps_ret (pe_has G_joined (hr.mono (by decide)) (pa_cons (pe_lc (own := [("_law_at", 9), ("_law_rim", 10)]) (g := gTup K 2 (gCons (gName 9) (gCons (gName 10) gNil))) (tt := tYes) (by rfl) sc_thing_signs.nd (ZK.pi_zip2 .l .l (by rfl) T.zip_ (pa_cons (pv 6) (pa_cons (pv 7) pa_nil))) (blkOk_by (own := [("_law_at", 9), ("_law_rim", 10)]) (N := N_thing_signs) (sc := defScope s_thing_signs) (by decide +kernel)) (fun _ _ _ _ _ => (pg_tup rfl (pgs_cons (pg_name (i := 9) sc_thing_signs.nd rfl (by first | exact Or.inl rfl | exact Or.inr rfl)) (pgs_cons (pg_name (i := 10) sc_thing_signs.nd rfl (by first | exact Or.inl rfl | exact Or.inr rfl)) pgs_nil)))) (fun _ _ _ _ _ => pts_nil) (fun _ _ _ _ _ => (pe_tup (pa_cons (pv 9) (pa_cons (pv 10) (pa_cons (pe_has G_lsign (hr.mono (by decide)) (pa_cons (pe_has G_thing_at (hr.mono (by decide)) (pa_cons (pv 0) (pa_cons (pv 9) pa_nil))) pa_nil)) pa_nil)))))) pa_nil)))))))), ?_⟩
    obtain ⟨fl, bs, ht, hfl, hbl, hbq⟩ := id hT
    have gF : ∀ {H' : Hp}, Same H H' → DGet H' t (.str "factors") (some (.ref fl)) := fun s => by
      have z := DGet.k (k := kF) (s _ _ ht)
      rw [th_f] at z
      exact z
    have gR : DGet H t (.str "root") (some (.int th.R)) := by
      have z := DGet.k (k := kRt) ht
      rw [th_r] at z
      exact z
    have gM : DGet H t (.str "many") (some (.int (th.m : Int))) := by
      have z := DGet.k (k := kM) ht
      rw [th_m] at z
      exact z
    have zR := g.szR
    have m2 := g.m2
    have f2 := g.fs2
    refine ⟨_, rfl, _, rfl, t, _, rfl, gR, _, rfl, t, _, rfl, gR, _, rfl, t, _, rfl, gM, _, _, rfl, rfl, (by show 3 ≤ sizeLine; decide), fun l0 nl0 => ?_⟩
    have s1 := same_new (Same.refl H) (.lst [.int lo, .int th.R, .int (th.R + (th.m : Int))]) nl0
    have hl0 : (L2.upd H l0 (.lst [.int lo, .int th.R, .int (th.R + (th.m : Int))])) l0 = some (.lst (([lo, th.R, th.R + (th.m : Int)] : List Int).map V.int)) := upd_same
    generalize L2.upd H l0 (.lst [.int lo, .int th.R, .int (th.R + (th.m : Int))]) = H1 at s1 hl0 ⊢
    refine ⟨_, rfl, t, _, rfl, gF s1, fl, rfl, ⟨_, SqL.of (s1 _ _ hfl)⟩, ?_⟩
    refine for_list (K := K) (a := fl) (xs := bs.map V.ref) (fun i σ H' => ∃ (v4 v5 : Option V) (l : Addr), σ = [some (.ref t), some (.int lo), some (oV hi), some (.ref l), v4, v5, none, none, none, none, none] ∧ Same H H' ∧ H' l = some (.lst (((th.fs.take i).foldl (fun l p => l ++ [p.2 / p.1, p.2 / p.1 + 1]) [lo, th.R, th.R + (th.m : Int)]).map V.int))) ⟨none, none, l0, rfl, s1, hl0⟩ (fun i σ H' _ h => by obtain ⟨_, _, _, _, s2, _⟩ := h; exact SqL.of (s2 _ _ hfl)) ?_ ?_
    · rintro i x σ H2 hx ⟨v4, v5, l, rfl, s2, hl2⟩
      have hi2 : i < th.fs.length := by
        have := (List.getElem?_eq_some_iff.mp hx).1
        rwa [List.length_map, hbl] at this
      obtain ⟨q, eq⟩ : ∃ q, th.fs[i]? = some q := ⟨_, List.getElem?_eq_getElem hi2⟩
      obtain ⟨b, eb⟩ : ∃ b, bs[i]? = some b := ⟨_, List.getElem?_eq_getElem (by rw [hbl]; exact hi2)⟩
      rw [List.getElem?_map, eb] at hx
      cases hx
      have hb := sqT_same s2 (hbq i b q eb eq)
      have gq := g.fs q (List.mem_of_getElem? eq)
      have dv : CDivW q.2 q.1 := ⟨by omega, by
        have : Sz 2 q.1 := by unfold Sz; omega
        exact Nat.lt_trans (sz_log this (by decide)) (by decide)⟩
      have tk : (th.fs.take (i + 1)).foldl (fun l p => l ++ [p.2 / p.1, p.2 / p.1 + 1]) [lo, th.R, th.R + (th.m : Int)] = (th.fs.take i).foldl (fun l p => l ++ [p.2 / p.1, p.2 / p.1 + 1]) [lo, th.R, th.R + (th.m : Int)] ++ [q.2 / q.1, q.2 / q.1 + 1] := by
        rw [List.take_succ, eq, List.foldl_append]
        rfl
      have lX : ((th.fs.take i).foldl (fun l p => l ++ [p.2 / p.1, p.2 / p.1 + 1]) [lo, th.R, th.R + (th.m : Int)]).length ≤ 7 := by
        have h1 := seams_len { th with fs := th.fs.take i } lo
        unfold Thing.seams at h1
        dsimp only at h1
        rw [h1, List.length_take]
        omega
      rw [tk]
      generalize (th.fs.take i).foldl (fun l p => l ++ [p.2 / p.1, p.2 / p.1 + 1]) [lo, th.R, th.R + (th.m : Int)] = X at hl2 lX ⊢
      refine ⟨b, _, rfl, hb, rfl, _, _, rfl, _, _, rfl, rfl, ?_⟩
      refine ⟨_, rfl, _, rfl, _, rfl, _, _, rfl, rfl, dv, _, rfl, _, rfl, _, _, rfl, rfl, dv, _, _, rfl, rfl, (by show 2 ≤ sizeLine; decide), fun l3 nl3 => ?_⟩
      generalize hH : L2.upd H2 l3 _ = H3
      have s3 : Same H2 H3 := by
        rw [← hH]
        exact same_new (Same.refl H2) _ nl3
      have hl3 : H3 l3 = some (.lst ([q.2 / q.1, q.2 / q.1 + 1].map V.int)) := by
        rw [← hH]
        exact upd_same
      clear hH
      refine ⟨l, l3, _, _, rfl, rfl, s3 _ _ hl2, hl3, Nat.le_of_lt (small1000 (by rw [List.length_map]; simp; omega)), fun l4 nl4 => ?_⟩
      rw [← List.map_append]
      exact ⟨_, _, l4, rfl, s2.trans (s3.trans (same_new (Same.refl H3) _ nl4)), upd_same⟩
    · rintro σ H2 ⟨v4, v5, l, rfl, s2, hl2⟩
      rw [List.length_map, hbl, List.take_length] at hl2
      have hl2 : H2 l = some (.lst ((th.seams lo).map V.int)) := hl2
      have sl := seams_len th lo
      have zseam : ∀ z ∈ th.seams lo, Sz 204 z := fun z hz => by
        have b0 := g.b0
        have b1 := g.b1
        have r1 := g.rlo
        have r2 := g.rhi
        rcases (mem_seams lo th.fs _ z).mp hz with h | ⟨q, hq, h⟩
        · simp at h
          rcases h with rfl | rfl | rfl
          · exact zlo
          · exact zR
          · unfold Sz at *
            omega
        · have gq := g.fs q hq
          unfold Sz at *
          omega
      refine ⟨_, rfl, l, rfl, ⟨_, SqL.of hl2⟩, fun D hD => ?_⟩
      refine ZK.lc_growF (J := Itl K l) (th.seams lo).length (small1000 (by omega)) (fun i acc H' => Same H2 H' ∧ acc = (((th.seams lo).take i).filter (inB lo hi)).map V.int) ⟨same_new (Same.refl _) _ hD, rfl⟩ ?_ ?_ ?_ ?_
      · rintro j acc H' hj ⟨s', _⟩
        exact ⟨_, _, s'.seq (SqL.of hl2), List.getElem?_eq_getElem (by rw [List.length_map]; exact hj)⟩
      · rintro acc H' ⟨s', _⟩
        exact ⟨_, s'.seq (SqL.of hl2), by rw [List.length_map]; exact Nat.le_refl _⟩
      · rintro j H3' y H3 acc hj ⟨s3, rfl⟩ hacc hal ⟨rfl, hy⟩ N hN
        have hyy := hy _ (s3.seq (SqL.of hl2))
        obtain ⟨z, ez⟩ : ∃ z, (th.seams lo)[j]? = some z := ⟨_, List.getElem?_eq_getElem hj⟩
        rw [List.getElem?_map, ez] at hyy
        cases hyy
        have tk : ((th.seams lo).take (j + 1)).filter (inB lo hi) = ((th.seams lo).take j).filter (inB lo hi) ++ (if inB lo hi z = true then [z] else []) := by
          rw [List.take_succ, ez, List.filter_append]
          congr 1
          by_cases h : inB lo hi z = true
          · rw [if_pos h]; simp only [Option.toList, List.filter_cons, List.filter_nil, h, if_true]
          · rw [if_neg h]; simp only [Option.toList, List.filter_cons, List.filter_nil, h, Bool.false_eq_true, if_false]
        have yes : inB lo hi z = true → ∃ acc', H3 D = some (.lst acc') ∧ acc'.length < sizeLine ∧ N (L2.upd H3 D (.lst (acc' ++ [V.int z]))) := fun h => ⟨_, hacc, small1000 (by omega), hN _ _ ⟨same_but_new s3 hD, by rw [tk, if_pos h, List.map_append]; rfl⟩ upd_same (by rw [List.length_append]; exact Nat.succ_le_succ hal)⟩
        have no : inB lo hi z = false → N H3 := fun h => hN _ _ ⟨s3, by rw [tk, if_neg (by rw [h]; exact Bool.false_ne_true), List.append_nil]⟩ hacc (Nat.le_succ_of_le hal)
        refine ⟨rfl, _, rfl, _, rfl, _, _, rfl, rfl, _, rfl, ite2 (fun h0 => ?_) (fun h0 => ?_)⟩
        · have e0 : lo ≤ z := by simpa using h0
          cases hi with
          | none =>
            refine ⟨_, rfl, rfl, true, rfl, iteT (iteT ?_)⟩
            exact ⟨_, rfl, .inl ⟨_, rfl, yes (inB_iff.mpr ⟨e0, fun h e => nomatch e⟩)⟩⟩
          | some h =>
            refine ⟨_, rfl, rfl, false, rfl, iteF ⟨_, rfl, _, rfl, _, _, rfl, rfl, _, rfl, ite2 (fun h1 => ?_) (fun h1 => ?_)⟩⟩
            · have e1 : z ≤ h := by simpa using h1
              exact ⟨_, rfl, .inl ⟨_, rfl, yes (inB_iff.mpr ⟨e0, fun h' e => by cases e; exact e1⟩)⟩⟩
            · have e1 : ¬ z ≤ h := by simpa using h1
              exact no (Bool.eq_false_iff.mpr fun q => e1 ((inB_iff.mp q).2 h rfl))
        · have e0 : ¬ lo ≤ z := by simpa using h0
          exact iteF (no (Bool.eq_false_iff.mpr fun q => e0 (inB_iff.mp q).1))
      · rintro H3 acc ⟨s3, rfl⟩ hacc hal
        rw [List.take_length] at hacc
        have lf := List.length_filter_le (inB lo hi) (th.seams lo)
        refine ⟨D, (th.seams lo).filter (inB lo hi), rfl, SqL.of hacc, Nat.lt_of_le_of_lt (Nat.succ_le_succ (Nat.le_trans lf (by omega : _ ≤ 7))) (by unfold scanBound; decide), fun p cnt np few => ?_⟩
        have c64 := few (th.seams lo) fun k hk => (List.mem_filter.mp hk).1
        refine ⟨p, _, cnt, rfl, upd_same, by omega, fun ns q up mem nsl nq => ?_⟩
        have s4 := same_new (Same.refl H3) (SetO w p (fun j => decide (j ∈ (th.seams lo).filter (inB lo hi))) cnt) np
        generalize L2.upd H3 p (SetO w p (fun j => decide (j ∈ (th.seams lo).filter (inB lo hi))) cnt) = H4 at s4 nq ⊢
        have s5 := same_new (Same.refl H4) (.lst (ns.map V.int)) nq
        have hq5 : (L2.upd H4 q (.lst (ns.map V.int))) q = some (.lst (ns.map V.int)) := upd_same
        generalize L2.upd H4 q (.lst (ns.map V.int)) = H5 at s5 hq5 ⊢
        have s05 := ((s2.trans s3).trans s4).trans s5
        have mem2 : ∀ k, k ∈ ns ↔ k ∈ th.seams lo ∧ inB lo hi k = true := fun k => by rw [mem k, decide_eq_true_iff, List.mem_filter]
        have nne : ns ≠ [] := fun z => by
          have h1 := (mem2 lo).mpr ⟨(mem_seams lo th.fs _ lo).mpr (.inl (by simp)), inB_iff.mpr ⟨Int.le_refl _, lh⟩⟩
          rw [z] at h1
          cases h1
        have ln : ns.length ≤ 7 := by omega
        have dl : (ns.drop 1).length ≤ 7 := by rw [List.length_drop]; omega
        refine ⟨_, rfl, _, rfl, q, _, rfl, SqL.of hq5, fun l1 nl1 => ?_⟩
        rw [show (some (1 : Int)) = some ((1 : Nat) : Int) from rfl, cut_from, ← List.map_drop]
        have s6 := same_new (Same.refl H5) (.lst ((ns.drop 1).map V.int)) nl1
        have e6 : (L2.upd H5 l1 (.lst ((ns.drop 1).map V.int))) l1 = some (.lst ((ns.drop 1).map V.int)) := upd_same
        generalize L2.upd H5 l1 (.lst ((ns.drop 1).map V.int)) = H6 at s6 e6 ⊢
        refine ⟨l1, rfl, ⟨_, SqL.of e6⟩, fun D6 hD6 => ?_⟩
        refine ZK.lc_growL (K := K) (a := l1) (xs := (ns.drop 1).map V.int) (small1000 (by rw [List.length_map]; omega)) (fun _ H' => Same H6 H') (fun i y => y = .int ((ns.drop 1).getD i 0 - 1)) (same_new (Same.refl _) _ hD6) (fun i H' s' => s'.seq (SqL.of e6)) ?_ ?_
        · intro i x H7 acc hx s7 hacc hal hR Qn hq
          obtain ⟨_, rfl⟩ := int_at hx
          exact ⟨rfl, _, rfl, _, _, rfl, rfl, hq _ _ rfl hacc (same_but_new s7 hD6)⟩
        · intro H7 acc s7 hacc hal hR
          have e := ZK.eq_map hal hR
          have eacc : acc = (ns.drop 1).map fun p => V.int (p - 1) := by
            rw [e, List.length_map]
            exact range_at (ns.drop 1) fun p => V.int (p - 1)
          refine ⟨_, rfl, (by show 1 ≤ sizeLine; decide), fun n1 hn1 => ?_⟩
          have s8 := same_new (Same.refl H7) (.lst [oV hi]) hn1
          refine ⟨D6, n1, _, _, rfl, rfl, s8 _ _ hacc, upd_same, ?_, fun l7 nl7 => ?_⟩
          · rw [hal, List.length_map]
            exact Nat.le_of_lt (small1000 (by show (ns.drop 1).length + 1 ≤ 1000; omega))
          · have s9 := ((s6.trans s7).trans s8).trans (same_new (Same.refl _) (.lst (acc ++ [oV hi])) nl7)
            have e9 : (L2.upd (L2.upd H7 n1 (.lst [oV hi])) l7 (.lst (acc ++ [oV hi]))) l7 = some (.lst ((rims hi ns).map oV)) := by
              rw [upd_same, eacc]
              unfold rims
              rw [List.map_append, List.map_map]
              rfl
            generalize L2.upd (L2.upd H7 n1 (.lst [oV hi])) l7 (.lst (acc ++ [oV hi])) = H9 at s9 e9 ⊢
            have q9 := s9 _ _ hq5
            have T9 := hT.same (s05.trans s9)
            have rl := rims_len hi nne
            refine ⟨_, rfl, _, rfl, q, l7, _, _, rfl, SqL.of q9, SqL.of e9, fun D hD => ?_⟩
            have cl : (cutsF th.at hi ns).length = ns.length := by
              unfold cutsF
              rw [List.length_zipWith, rl, Nat.min_self]
            have ct : ∀ j n r, ns[j]? = some n → (rims hi ns)[j]? = some r → (cutsF th.at hi ns)[j]? = some (n, r, sgn (th.at n)) := fun j n r h1 h2 => by
              unfold cutsF
              rw [List.getElem?_zipWith, h1, h2]
            refine ZK.lc_growF (J := ZK.Itz2 K .l .l q l7) ns.length (small1000 (by omega)) (fun i acc H' => Same H9 H' ∧ ∃ es : List Addr, acc = es.map V.ref ∧ TrsAt K H' es ((cutsF th.at hi ns).take i)) ⟨same_new (Same.refl _) _ hD, [], rfl, TrsAt.nil⟩ ?_ ?_ ?_ ?_
            · rintro j acc H' hj ⟨s', _⟩
              exact ⟨_, _, _, _, SqL.of (s' _ _ q9), SqL.of (s' _ _ e9), List.getElem?_eq_getElem (by rw [List.length_map]; exact hj), List.getElem?_eq_getElem (by rw [List.length_map, rl]; exact hj)⟩
            · rintro acc H' ⟨s', _⟩
              exact ⟨_, _, SqL.of (s' _ _ q9), SqL.of (s' _ _ e9), by simp, by simp [rl], by simp⟩
            · rintro j H10 z H11 acc hj ⟨s10, es, rfl, hes⟩ hacc hal ⟨T, x, y, rfl, nT, rfl, hx, hy⟩ N hN
              obtain ⟨n, en⟩ : ∃ n, ns[j]? = some n := ⟨_, List.getElem?_eq_getElem hj⟩
              obtain ⟨r, er⟩ : ∃ r, (rims hi ns)[j]? = some r := ⟨_, List.getElem?_eq_getElem (by rw [rl]; exact hj)⟩
              have hxx := hx _ (SqL.of (s10 _ _ q9))
              have hyy := hy _ (SqL.of (s10 _ _ e9))
              rw [List.getElem?_map, en] at hxx
              rw [List.getElem?_map, er] at hyy
              cases hxx
              cases hyy
              have s11 := same_new (Same.refl H10) (.tup [.int n, oV r]) nT
              have h11 : (L2.upd H10 T (.tup [.int n, oV r])) T = some (.tup [.int n, oV r]) := upd_same
              generalize L2.upd H10 T (.tup [.int n, oV r]) = H11 at s11 h11 ⊢
              have nn := (mem2 n).mp (List.mem_of_getElem? en)
              refine ⟨T, _, rfl, SqT.of h11, rfl, _, _, rfl, _, _, rfl, rfl, ?_⟩
              refine ⟨rfl, yesT' (iteT ?_)⟩
              refine ⟨_, rfl, _, rfl, _, rfl, _, rfl, t, th, ba, n, rfl, (T9.same s10).same s11, g, zseam n nn.1, fun H12 s12 => ⟨_, rfl, (by show 3 ≤ sizeLine; decide), fun u nu => ?_⟩⟩
              have s13 := same_new (Same.refl H12) (.tup [.int n, oV r, .int (sgn (th.at n))]) nu
              have hD12 : H12 D = some (.lst (es.map V.ref)) := s12 _ _ (s11 _ _ hacc)
              have nDu : D ≠ u := ne_of_none hD12 nu
              have s92 := ((s10.trans s11).trans s12).trans s13
              have eS : (cutsF th.at hi ns).take (j + 1) = (cutsF th.at hi ns).take j ++ [(n, r, sgn (th.at n))] := by
                rw [List.take_succ, ct j n r en er]
                rfl
              refine ⟨es.map V.ref, s13 _ _ hD12, small1000 (by omega), hN _ _ ⟨same_but_new s92 hD, es ++ [u], by rw [List.map_append]; rfl, ?_⟩ upd_same (by rw [List.length_append]; exact Nat.succ_le_succ hal)⟩
              rw [eS]
              exact (TrsAt.snoc (hes.same ((s11.trans s12).trans s13)) (SqT.of upd_same)).upd (s13 _ _ hD12)
            · rintro H10 acc ⟨s10, es, rfl, hes⟩ hacc hal
              rw [List.take_of_length_le (Nat.le_of_eq cl)] at hes
              have cv := Thing.cov g.ok lh up mem2
              obtain ⟨j1, j2⟩ := join_cov cv
              refine ⟨D, es, _, rfl, SqL.of hacc, hes, by omega, fun l11 cs H12 s12 nl12 hl12 hcs => ?_⟩
              have sA := ((s05.trans s9).trans s10).trans s12
              have fl7 := fold_len (cutsF th.at hi ns) []
              exact k l11 cs _ H12 sA (((s05.trans s9).trans s10).free nl12) hl12 hcs j1 j2 (by rw [cl] at fl7; simp at fl7; omega)
end
end EN

namespace EN
open PySem L2 PyProof.Rows
section
variable {P : Program} {w : World} {K : PySem.W.Frag} {mg : Str → Option Value} {base : Heap} {f : Addr} {fd : FuncData}
abbrev s_great : Stmt := top 39
abbrev N_great : List Str := ["_law_pen_here", "_law_many", "_law_amount", "_law_size"]
theorem sc_great : FnScope N_great ["_law_pen_here", "_law_many"] (defScope s_great) := ⟨rfl, rfl, rfl, by decide +kernel, rfl, by decide +kernel, by decide +kernel⟩

theorem ok_great (F : Fun K "_law_great" "_law_great" s_great f fd) (T : Blt mg) (G_draw : Has P w K mg base 1 "_law_draw" ["_law_pen_here", "_law_many"] spDraw) : FnOk P w K mg base CX0 2 f fd ["_law_pen_here", "_law_many"] spGreat := by
  refine F.ok sc_great (fun vs H Q E h => ?_) (fun cdv A outer s H vs Q E hr h => ?_)
  · obtain ⟨p, c, ns, B, m, rfl, _⟩ := h
    rfl
  · obtain ⟨p, c, ns, B, m, rfl, hP, hB, hm, hs, k⟩ := h
    refine ⟨_, (pss_cons (ps_asg (pe_tup (pa_cons pe_int (pa_cons pe_int pa_nil))) (pg_tup rfl (pgs_cons (pg_name (i := 2) sc_great.nd rfl (Or.inl rfl)) (pgs_cons (pg_name (i := 3) sc_great.nd rfl (Or.inl rfl)) pgs_nil))))
    (pss_cons (ps_while PassesOwn.never (pt_cmpR op_lt (pv 3) (pv 1) (nomark _))
      (pss_one (ps_par (i := 2) (j := 3) (by rfl) sc_great.nd rfl rfl (by decide) rfl rfl (pa_cons (pe_op op_add (pe_op op_mulW (pv 2) (pe_op op_pow pe_int pe_int)) (pe_has G_draw (hr.mono (by decide)) (pa_cons (pv 0) (pa_cons (pe_op op_pow pe_int pe_int) pa_nil)))) (pa_cons (pe_op op_mulW (pv 3) (pe_op op_pow pe_int pe_int)) pa_nil)) (by rfl))))
    (pss_one (ps_ret (pe_op op_mod (pe_callTy call_int1 (by rfl) T.int_ (by decide +kernel) (pa_cons (pv 2) pa_nil)) (pv 1)))))), ?_⟩
    refine ⟨(by show 2 ≤ sizeLine; decide), fun t ht => ⟨t, _, rfl, SqT.of upd_same, rfl, _, _, rfl, _, _, rfl, rfl, ?_⟩⟩
    have hP0 : Pen (upd H t (.tup [.int 0, .int 1])) p c ns B := hP.new ht
    have hb0 : But p H (upd H t (.tup [.int 0, .int 1])) := (But.refl _ _).new _ ht
    generalize upd H t (.tup [.int 0, .int 1]) = H0 at hP0 hb0
    -- at most ten turns
    have lim : ∀ j : Nat, ((1000000000 ^ j : Nat) : Int) < m → j ≤ 10 := fun j h => by
      by_cases q : j ≤ 10
      · exact q
      · exfalso
        have h2 : 1000000000 ^ 11 ≤ 1000000000 ^ j := Nat.pow_le_pow_right (by decide) (by omega)
        have h5 : 2 ^ 300 ≤ 1000000000 ^ 11 := by decide +kernel
        have h6 : m.natAbs < 1000000000 ^ j := Nat.lt_of_lt_of_le hs (Nat.le_trans h5 h2)
        omega
    let W : Nat → L2.St → Hp → Prop := fun n σ H' => ∃ (i : Nat) (a z : Int), σ = [some (.ref p), some (.int m), some (.int a), some (.int z)] ∧ n = (m - z).toNat ∧ 0 ≤ a ∧ a < z ∧ z = ((1000000000 ^ i : Nat) : Int) ∧ (i = 0 ∨ ((1000000000 ^ (i - 1) : Nat) : Int) < m) ∧ Pen H' p c ns (B + i) ∧ But p H H'
    refine ⟨W, ⟨_, 0, 0, 1, rfl, rfl, by decide, by decide, rfl, .inl rfl, hP0, hb0⟩, ?_⟩
    rintro n σ H' ⟨i, a, z, rfl, rfl, ha, haz, hz, hi, hP', hb⟩
    refine ⟨_, rfl, _, rfl, _, _, rfl, rfl, _, rfl, ?_⟩
    refine ite2 (fun h1 => ?_) (fun h1 => ?_)
    · have h2 : z < m := of_decide_eq_true h1
      have hi10 := lim i (by rw [← hz]; exact h2)
      have sm : Sz 300 z := Nat.lt_of_le_of_lt (by omega : z.natAbs ≤ m.natAbs) hs
      have sa : Sz 300 a := Nat.lt_of_le_of_lt (by omega : a.natAbs ≤ m.natAbs) hs
      have s9 : Sz 30 ((10 : Int) ^ (9 : Int).toNat) := by unfold Sz; decide
      refine ⟨fun σ' H' => ∃ n', n' < (m - z).toNat ∧ W n' σ' H', fun σ' H' h => h, ?_⟩
      refine ⟨_, rfl, 10, 9, rfl, rfl, ⟨by decide, by decide, by decide⟩, _, _, rfl, rfl, sa.mulOk s9 (by decide), _, rfl, 10, 9, rfl, rfl, ⟨by decide, by decide, by decide⟩, ?_⟩
      refine ⟨p, c, ns, B + i, (10 : Int) ^ (9 : Int).toNat, rfl, hP', by omega, by decide, Nat.lt_of_lt_of_le s9 (Nat.pow_le_pow_right (by decide) (by decide)), fun d H1 d0 d1 P1 s1 => ?_⟩
      refine ⟨_, _, rfl, rfl, _, rfl, 10, 9, rfl, rfl, ⟨by decide, by decide, by decide⟩, _, _, rfl, rfl, sm.mulOk s9 (by decide), _, _, rfl, ?_⟩
      have e9 : (10 : Int) ^ (9 : Int).toNat = 1000000000 := by decide
      rw [e9] at d1 ⊢
      have zpos : 0 < z := by omega
      refine ⟨(m - z * 1000000000).toNat, by omega, i + 1, a * 1000000000 + d, z * 1000000000, rfl, rfl, by omega, by omega, ?_, .inr (by rw [Nat.add_sub_cancel, ← hz]; exact h2), P1, hb.trans s1⟩
      rw [Nat.pow_succ, hz]
      omega
    · refine ⟨_, rfl, .inl ⟨_, rfl, _, rfl, _, _, rfl, rfl, hm, ?_⟩⟩
      have hi20 : i ≤ 20 := by
        rcases hi with h | h
        · omega
        · have := lim _ h
          omega
      exact k _ _ (Int.emod_nonneg _ (by omega)) (Int.emod_lt_of_pos _ hm) (hP'.more (by omega) (by omega)) hb
end
end EN

namespace EN
open PySem L2 PyProof.Rows
section
variable {P : Program} {w : World} {K : PySem.W.Frag} {mg : Str → Option Value} {base : Heap} {f : Addr} {fd : FuncData}
open SG
def spBaseS : Sp := fun vs H Q _ => ∃ (p c : Addr) (ns : List Int) (B : Nat), vs = [.ref p] ∧ Pen H p c ns B ∧ B + 30 ≤ 1000000000 ∧ ∀ (d : Int) (H' : Hp), 0 ≤ d → d < 10 ^ (60 : Int).toNat → Pen H' p c ns (B + 30) → But p H H' → Q (.int d) H'
abbrev s_base : Stmt := top 47
abbrev N_base : List Str := ["_law_pen_here"]
theorem sc_base : FnScope N_base ["_law_pen_here"] (defScope s_base) := ⟨rfl, rfl, rfl, by decide +kernel, rfl, by decide +kernel, by decide +kernel⟩

theorem ok_base (F : Fun K "_law_base" "_law_base" s_base f fd) (T : Blt mg) (G_draw : Has P w K mg base 1 "_law_draw" ["_law_pen_here", "_law_many"] spDraw) (G_great : Has P w K mg base 2 "_law_great" ["_law_pen_here", "_law_many"] spGreat) : FnOk P w K mg base CX0 3 f fd ["_law_pen_here"] spBaseS := by
  refine F.ok sc_base (fun vs H Q E h => ?_) (fun cdv A outer s H vs Q E hr h => ?_)
  · obtain ⟨_, _, _, _, rfl, _⟩ := h
    rfl
  · obtain ⟨p, c, ns, B, rfl, hP, hB, k⟩ := h
    refine ⟨_, (pss_one (ps_ret (pe_ifExp (pt_cmpR op_eq (pe_has G_draw (hr.mono (by decide)) (pa_cons (pv 0) (pa_cons pe_int pa_nil))) pe_int (nomark _)) (pe_has G_great (hr.mono (by decide)) (pa_cons (pv 0) (pa_cons (pe_op op_pow pe_int pe_int) pa_nil))) (pe_has G_draw (hr.mono (by decide)) (pa_cons (pv 0) (pa_cons pe_int pa_nil)))))), ?_⟩
    refine ⟨_, rfl, p, c, ns, B, 4, rfl, hP, by omega, by decide, lit8 _ (by decide) (by decide), fun way H1 w0 w1 P1 b1 => ?_⟩
    refine ⟨rfl, _, rfl, ?_⟩
    have s60 : Sz 200 ((10 : Int) ^ (60 : Int).toNat) := by unfold Sz; decide +kernel
    have p60 : 3 < (10 : Int) ^ (60 : Int).toNat := by decide +kernel
    refine ite2 (fun h1 => ?_) (fun h1 => ?_)
    · refine ⟨_, rfl, 10, 60, rfl, rfl, ⟨by decide, by decide, by decide⟩, p, c, ns, B + 1, _, rfl, P1, by omega, by omega, s60.mono (by decide), fun y H2 y0 y1 P2 b2 => ?_⟩
      exact k y _ y0 y1 (P2.more (by omega) (by omega)) (b1.trans b2)
    · refine ⟨_, rfl, p, c, ns, B + 1, 3, rfl, P1, by omega, by decide, lit8 _ (by decide) (by decide), fun y H2 y0 y1 P2 b2 => ?_⟩
      exact k y _ y0 (by omega) (P2.more (by omega) (by omega)) (b1.trans b2)
/-- a thing stays, whatever is drawn -/
theorem ThgAt.but {H H' : Hp} {p c t : Addr} {ns : List Int} {B : Nat} {th : Thing} (P : Pen H p c ns B) (s : But p H H') (h : ThgAt K H t th) : ThgAt K H' t th := by
  obtain ⟨fl, bs, h1, h2, h3, h4⟩ := h
  obtain ⟨b, r, e, _⟩ := P.at_
  have K1 := P.kp (K := K) s
  refine ⟨fl, bs, s _ _ h1 (ne_of h1 e (by
    intro z
    have := HO.dK.inj z
    exact absurd (congrArg List.length this) (by show ¬ (4 = 3); decide))), s _ _ h2 (ne_of h2 e (by intro z; cases z)), h3, fun i b q e1 e2 => K1.t _ _ (h4 i b q e1 e2)⟩
theorem TrsAt.but {H H' : Hp} {p c : Addr} {ns : List Int} {B : Nat} {bs : List Addr} {ts : List Tr} (P : Pen H p c ns B) (s : But p H H') (h : TrsAt K H bs ts) : TrsAt K H' bs ts :=
  ⟨h.1, fun i b t e1 e2 => P.sqT s (h.2 i b t e1 e2)⟩
/-- what is known of a thing's row -/
structure RowThg (th : Thing) (r : List Int) : Prop where
  len : r.length ≤ 5
  sz : SzA 1200 r
  val : ∀ n, M.val r n = th.at n
theorem RowThg.far {th : Thing} {base : Int} {r : List Int} (g : TGood th base) (h : ∀ n, M.val r n = th.at n) (hl : (M.cut r).length ≤ 6) {lo B : Int} (hB : ∀ z ∈ th.seams lo, z + 6 ≤ B) : FarR (M.cut r) B := fun k a hk ha n hn =>
  Thing.far (B := B - 6) (lo := lo) g.ok (fun z hz => by have := hB z hz; omega) h hl k a hk ha n (by omega)
/-- all seams lie below base + 11 and lo -/
theorem TGood.seams {th : Thing} {base : Int} (g : TGood th base) (lo : Int) : ∀ z ∈ th.seams lo, z + 6 ≤ max (base + 17) (lo + 6) := fun z hz => by
  have m2 := g.m2
  have r2 := g.rhi
  rcases (mem_seams lo th.fs _ z).mp hz with h | ⟨q, hq, h⟩
  · simp at h
    rcases h with rfl | rfl | rfl <;> omega
  · have gq := g.fs q hq
    omega
end
end EN

namespace EN
open PySem L2 PyProof.Rows
section
variable {P : Program} {w : World} {K : PySem.W.Frag} {mg : Str → Option Value} {base : Heap} {f : Addr} {fd : FuncData}
abbrev s_integer : Stmt := top 40
abbrev N_integer : List Str := ["_law_pen_here", "_law_way", "_law_side"]
theorem sc_integer : FnScope N_integer ["_law_pen_here"] (defScope s_integer) := ⟨rfl, rfl, rfl, by decide +kernel, rfl, by decide +kernel, by decide +kernel⟩

theorem side_ok {d y : Int} (h0 : 0 ≤ d) (h1 : d < 2) (y0 : Sz 200 y) : CMulW (1 - 2 * d) y ∧ Sz 200 ((1 - 2 * d) * y) := by
  have hd : d = 0 ∨ d = 1 := by omega
  rcases hd with rfl | rfl
  · refine ⟨Sz.mulOk (a := 2) (by unfold Sz; decide) y0 (by decide), ?_⟩
    have e : (1 - 2 * 0 : Int) * y = y := by omega
    rw [e]; exact y0
  · refine ⟨Sz.mulOk (a := 2) (by unfold Sz; decide) y0 (by decide), ?_⟩
    have e : (1 - 2 * 1 : Int) * y = -y := by omega
    rw [e]; exact y0.neg
theorem ok_integer (F : Fun K "_law_integer" "_law_integer" s_integer f fd) (T : Blt mg) (G_draw : Has P w K mg base 1 "_law_draw" ["_law_pen_here", "_law_many"] spDraw) (G_great : Has P w K mg base 2 "_law_great" ["_law_pen_here", "_law_many"] spGreat) : FnOk P w K mg base CX0 3 f fd ["_law_pen_here"] spInteger := by
  refine F.ok sc_integer (fun vs H Q E h => ?_) (fun cdv A outer s H vs Q E hr h => ?_)
  · obtain ⟨p, c, ns, B, rfl, _⟩ := h
    rfl
  · obtain ⟨p, c, ns, B, rfl, hP, hB, k⟩ := h
    refine ⟨_, (pss_cons (ps_par (i := 1) (j := 2) (by rfl) sc_integer.nd rfl rfl (by decide) rfl rfl (pa_cons (pe_has G_draw (hr.mono (by decide)) (pa_cons (pv 0) (pa_cons pe_int pa_nil))) (pa_cons (pe_op op_sub pe_int (pe_op op_mulW pe_int (pe_has G_draw (hr.mono (by decide)) (pa_cons (pv 0) (pa_cons pe_int pa_nil))))) pa_nil)) (by rfl))
    (pss_cons (ps_if (pt_cmpR op_eq (pv 1) pe_int (nomark _))
      (pss_one (ps_ret pe_int))
      pss_nil)
    (pss_cons (ps_if (pt_cmpR op_lt (pv 1) pe_int (nomark _))
      (pss_one (ps_ret (pe_op op_mulW (pv 2) (pe_has G_draw (hr.mono (by decide)) (pa_cons (pv 0) (pa_cons pe_int pa_nil))))))
      pss_nil)
    (pss_cons (ps_if (pt_cmpR op_eq (pv 1) pe_int (nomark _))
      (pss_one (ps_ret (pe_op op_mulW (pv 2) (pe_has G_draw (hr.mono (by decide)) (pa_cons (pv 0) (pa_cons pe_int pa_nil))))))
      pss_nil)
    (pss_one (ps_ret (pe_op op_mulW (pv 2) (pe_ifExp (pt_cmpR op_eq (pv 1) pe_int (nomark _)) (pe_op op_sub (pe_op op_pow pe_int pe_int) (pe_has G_draw (hr.mono (by decide)) (pa_cons (pv 0) (pa_cons pe_int pa_nil)))) (pe_has G_great (hr.mono (by decide)) (pa_cons (pv 0) (pa_cons (pe_op op_pow pe_int pe_int) pa_nil))))))))))), ?_⟩
    have lit : ∀ m : Int, 0 < m → m < 5000 → m.natAbs < 2 ^ 8000 := fun m h0 h1 => Nat.lt_of_lt_of_le (by omega : m.natAbs < 2 ^ 13) (Nat.pow_le_pow_right (by decide) (by decide))
    have s60 : Sz 200 ((10 : Int) ^ (60 : Int).toNat) := by unfold Sz; decide +kernel
    refine ⟨_, rfl, p, c, ns, B, 9, rfl, hP, by omega, by decide, lit _ (by decide) (by decide), fun way H1 w0 w1 P1 b1 => ?_⟩
    refine ⟨_, rfl, p, c, ns, B + 1, 2, rfl, P1, by omega, by decide, lit _ (by decide) (by decide), fun d H2 d0 d1 P2 b2 => ?_⟩
    refine ⟨2, d, rfl, rfl, Sz.mulOk (a := 2) (b := 2) (by unfold Sz; decide) (by unfold Sz; omega) (by decide), 1, _, rfl, rfl, _, _, rfl, ?_⟩
    have b2' := b1.trans b2
    refine ⟨_, rfl, rfl, _, rfl, ?_⟩
    refine ite2 (fun h1 => ?_) (fun h1 => ?_)
    · exact k 0 _ (by unfold Sz; decide +kernel) (P2.more (by omega) (by omega)) b2'
    refine ⟨_, rfl, _, _, rfl, rfl, _, rfl, ?_⟩
    refine ite2 (fun h2 => ?_) (fun h2 => ?_)
    · refine ⟨_, rfl, _, rfl, p, c, ns, B + 1 + 1, 9, rfl, P2, by omega, by decide, lit _ (by decide) (by decide), fun y H3 y0 y1 P3 b3 => ?_⟩
      have q := side_ok (y := y) d0 d1 (Sz.mono (a := 5) (by unfold Sz; omega) (by decide))
      exact ⟨_, _, rfl, rfl, q.1, k _ _ q.2 (P3.more (by omega) (by omega)) (b2'.trans b3)⟩
    refine ⟨_, rfl, rfl, _, rfl, ?_⟩
    refine ite2 (fun h3 => ?_) (fun h3 => ?_)
    · refine ⟨_, rfl, _, rfl, p, c, ns, B + 1 + 1, 3000, rfl, P2, by omega, by decide, lit _ (by decide) (by decide), fun y H3 y0 y1 P3 b3 => ?_⟩
      have q := side_ok (y := y) d0 d1 (Sz.mono (a := 15) (by unfold Sz; omega) (by decide))
      exact ⟨_, _, rfl, rfl, q.1, k _ _ q.2 (P3.more (by omega) (by omega)) (b2'.trans b3)⟩
    refine ⟨_, rfl, _, rfl, rfl, _, rfl, ?_⟩
    have e60 : (10 : Int) ^ (60 : Int).toNat < 2 ^ 200 := by decide +kernel
    have p60 : 3 < (10 : Int) ^ (60 : Int).toNat := by decide +kernel
    refine ite2 (fun h4 => ?_) (fun h4 => ?_)
    · refine ⟨10, 60, rfl, rfl, ⟨by decide, by decide, by decide⟩, _, rfl, p, c, ns, B + 1 + 1, 3, rfl, P2, by omega, by decide, lit _ (by decide) (by decide), fun y H3 y0 y1 P3 b3 => ?_⟩
      have q := side_ok (y := (10 : Int) ^ (60 : Int).toNat - y) d0 d1 (Nat.lt_of_le_of_lt (by omega : ((10 : Int) ^ (60 : Int).toNat - y).natAbs ≤ ((10 : Int) ^ (60 : Int).toNat).natAbs) s60)
      exact ⟨_, _, rfl, rfl, _, _, rfl, rfl, q.1, k _ _ q.2 (P3.more (by omega) (by omega)) (b2'.trans b3)⟩
    · refine ⟨_, rfl, 10, 60, rfl, rfl, ⟨by decide, by decide, by decide⟩, p, c, ns, B + 1 + 1, _, rfl, P2, by omega, by omega, s60.mono (by decide), fun y H3 y0 y1 P3 b3 => ?_⟩
      have q := side_ok (y := y) d0 d1 (Nat.lt_of_le_of_lt (by omega : y.natAbs ≤ ((10 : Int) ^ (60 : Int).toNat).natAbs) s60)
      exact ⟨_, _, rfl, rfl, q.1, k _ _ q.2 (P3.more (by omega) (by omega)) (b2'.trans b3)⟩
end
end EN

namespace EN
open PySem L2 PyProof.Rows
section
variable {P : Program} {w : World} {K : PySem.W.Frag} {mg : Str → Option Value} {base : Heap} {f : Addr} {fd : FuncData}
def spRow : Sp := fun vs H Q _ => ∃ (p c : Addr) (ns : List Int) (B : Nat) (m : Int), vs = [.ref p, .int m] ∧ Pen H p c ns B ∧ 0 < m ∧ m ≤ 10 ∧ B + 500 ≤ 1000000000 ∧
  ∀ (l : Addr) (r : List Int) (H' : Hp), r.length ≤ m → (∀ x ∈ r, Sz 200 x) → Pen H' p c ns (B + 500) → But p H H' → H l = none → H' l = some (.lst (r.map V.int)) → Q (.ref l) H'
theorem ints_of {P : Int → Prop} : ∀ acc : List V, (∀ (i : Nat) (y : V), acc[i]? = some y → ∃ z, y = V.int z ∧ P z) → ∃ zs : List Int, acc = zs.map V.int ∧ ∀ z ∈ zs, P z
  | [], _ => ⟨[], rfl, fun z h => by simp at h⟩
  | a :: r, h => by
    obtain ⟨z, rfl, hz⟩ := h 0 a rfl
    obtain ⟨zs, rfl, hzs⟩ := ints_of r fun i y e => h (i + 1) y (by simpa using e)
    refine ⟨z :: zs, rfl, fun x hx => ?_⟩
    rcases List.mem_cons.mp hx with e | e
    · rw [e]; exact hz
    · exact hzs x e
abbrev s_lrow : Stmt := top 44
abbrev N_lrow : List Str := ["_law_pen_here", "_law_most", "_law_k"]
theorem sc_lrow : FnScope N_lrow ["_law_pen_here", "_law_most"] (defScope s_lrow) := ⟨rfl, rfl, rfl, by decide +kernel, rfl, by decide +kernel, by decide +kernel⟩

theorem ok_lrow (F : Fun K "_law_row" "_law_row" s_lrow f fd) (T : Blt mg) (G_draw : Has P w K mg base 1 "_law_draw" ["_law_pen_here", "_law_many"] spDraw) (G_integer : Has P w K mg base 3 "_law_integer" ["_law_pen_here"] spInteger) : FnOk P w K mg base CX0 4 f fd ["_law_pen_here", "_law_most"] spRow := by
  refine F.ok sc_lrow (fun vs H Q E h => ?_) (fun cdv A outer s H vs Q E hr h => ?_)
  · obtain ⟨p, c, ns, B, m, rfl, _⟩ := h
    rfl
  · obtain ⟨p, c, ns, B, m, rfl, hP, hm, hm10, hB, k⟩ := h
    refine ⟨_, (pss_one (ps_ret (pe_op op_cat (pe_lc (own := [("_law_k", 2)]) (g := gName 2) (tt := tYes) (by rfl) sc_lrow.nd (pi_range1 (by rfl) T.range_ (pa_cons (pe_has G_draw (hr.mono (by decide)) (pa_cons (pv 0) (pa_cons (pv 1) pa_nil))) pa_nil)) (blkOk_by (own := [("_law_k", 2)]) (N := N_lrow) (sc := defScope s_lrow) (by decide +kernel)) (fun _ _ _ _ _ => (pg_name (i := 2) sc_lrow.nd rfl (by first | exact Or.inl rfl | exact Or.inr rfl))) (fun _ _ _ _ _ => pts_nil) (fun _ _ _ _ _ => (pe_has G_integer (hr.mono (by decide)) (pa_cons (pv 0) pa_nil)))) (pe_op op_rep (pe_lst (pa_cons pe_int pa_nil)) (pe_op op_fdivW (pe_has G_draw (hr.mono (by decide)) (pa_cons (pv 0) (pa_cons pe_int pa_nil))) pe_int))))), ?_⟩
    have lit : ∀ m : Int, 0 < m → m < 5000 → m.natAbs < 2 ^ 8000 := fun m h0 h1 => Nat.lt_of_lt_of_le (by omega : m.natAbs < 2 ^ 13) (Nat.pow_le_pow_right (by decide) (by decide))
    refine ⟨_, rfl, _, rfl, p, c, ns, B, m, rfl, hP, by omega, hm, lit _ hm (by omega), fun d H1 d0 d1 P1 b1 => ⟨d, rfl, by omega, by omega, fun D hD => ?_⟩⟩
    obtain ⟨n, rfl⟩ := Int.eq_ofNat_of_zero_le d0
    have nDp := P1.nep hD
    have nDc := P1.nec hD
    rw [show (n : Int).toNat = n by omega]
    refine ZK.lc_growR n (small1000 (by omega)) (fun i H' => Pen H' p c ns (B + 1 + 30 * i) ∧ But p H1 H') (fun i y => ∃ z, y = V.int z ∧ Sz 200 z) ⟨P1.new hD, (But.refl _ _).new _ hD⟩ ?_ ?_
    · rintro i H2 acc hi ⟨P2, b2⟩ hacc hal hR Qn hq
      refine ⟨rfl, _, rfl, p, c, ns, B + 1 + 30 * i, rfl, P2, by omega, fun z H3 hz P3 b3 => hq _ _ ⟨z, rfl, hz⟩ (b3 _ _ hacc nDp) ⟨?_, but_new (b2.trans b3) hD⟩⟩
      exact (P3.stay (upd_ne nDp.symm) (upd_ne nDc.symm)).more (by omega) (by omega)
    · rintro H2 acc ⟨P2, b2⟩ hacc hal hR
      obtain ⟨zs, rfl, hzs⟩ := ints_of acc fun i y e => hR i y e
      rw [List.length_map] at hal
      refine ⟨(by show 1 ≤ sizeLine; decide), fun e he => ?_⟩
      have P2e := P2.new (u := .lst [.int 0]) he
      have hacce : (upd H2 e (.lst [.int 0])) D = some (.lst (zs.map V.int)) := by rw [upd_ne (ne_of_none hacc he)]; exact hacc
      have he2 : (upd H2 e (.lst [.int 0])) e = some (.lst [.int 0]) := upd_same
      have b2e : But p H (upd H2 e (.lst [.int 0])) := (b1.trans b2).new _ he
      generalize upd H2 e (.lst [.int 0]) = H3 at P2e hacce he2 b2e
      have nep : e ≠ p := by
        intro z
        obtain ⟨b, r, q, _⟩ := P2e.at_
        rw [← z, he2] at q
        cases q
      refine ⟨_, rfl, p, c, ns, B + 1 + 30 * n, 4, rfl, P2e, by omega, by decide, lit _ (by decide) (by decide), fun d2 H4 e0 e1 P4 b4 => ?_⟩
      have h4e := b4 _ _ he2 nep
      have h4D := b4 _ _ hacce nDp
      refine ⟨_, _, rfl, rfl, divW 3 (by decide) (by decide) (by decide), e, _, _, rfl, rfl, h4e, by omega, by omega, ?_, fun u hu => ?_⟩
      · have : (d2 / 2).toNat ≤ 1 := by omega
        show 1 * (d2 / 2).toNat ≤ sizeLine
        exact Nat.le_trans (by omega) (show 1 ≤ sizeLine by decide)
      have fl : (List.replicate (d2 / 2).toNat [V.int 0]).flatten = (List.replicate (d2 / 2).toNat (0 : Int)).map V.int := by
        have : (d2 / 2).toNat = 0 ∨ (d2 / 2).toNat = 1 := by omega
        rcases this with q | q <;> rw [q] <;> rfl
      rw [fl]
      have nuD : D ≠ u := ne_of_none h4D hu
      refine ⟨D, u, _, _, rfl, rfl, (by rw [upd_ne nuD]; exact h4D), upd_same, ?_, fun v hv => ?_⟩
      · rw [List.length_map, List.length_map, List.length_replicate]
        exact Nat.le_of_lt (small1000 (by omega))
      rw [← List.map_append]
      have b5 := ((b2e.trans b4).new _ hu).new (.lst ((zs ++ List.replicate (d2 / 2).toNat (0 : Int)).map V.int)) hv
      refine k v _ _ ?_ ?_ (((P4.new hu).new hv).more (by omega) (by omega)) b5 ?_ upd_same
      · rw [List.length_append, List.length_replicate]
        omega
      · intro x hx
        rcases List.mem_append.mp hx with z | z
        · exact hzs x z
        · rw [List.eq_of_mem_replicate z]
          unfold Sz; decide +kernel
      · cases q : H v with
        | none => rfl
        | some o =>
          exfalso
          by_cases hvp : v = p
          · obtain ⟨b, r, q2, _⟩ := (P4.new (u := .lst ((List.replicate (d2 / 2).toNat (0 : Int)).map V.int)) hu).at_
            rw [← hvp, hv] at q2
            cases q2
          · have := ((b2e.trans b4).new (.lst ((List.replicate (d2 / 2).toNat (0 : Int)).map V.int)) hu) v o q hvp
            rw [hv] at this
            cases this
abbrev s_lplus : Stmt := top 45
abbrev N_lplus : List Str := ["_law_one", "_law_two", "_law_many", "_law_first", "_law_second", "_law_k"]
theorem sc_lplus : FnScope N_lplus ["_law_one", "_law_two"] (defScope s_lplus) := ⟨rfl, rfl, rfl, by decide +kernel, rfl, by decide +kernel, by decide +kernel⟩

def spLPlus (K : PySem.W.Frag) : Sp := fun vs H Q _ => ∃ (a a' : Addr) (r s : List Int), vs = [.ref a, .ref a'] ∧ SeqI K H a r ∧ SeqI K H a' s ∧ r.length ≤ 300 ∧ s.length ≤ 300 ∧ ∀ (t : Addr) (R : List Int) (H' : Hp), Same H H' → SqT K H' t ((M.cut R).map V.int) → R.length = max r.length s.length → (∀ n, M.val R n = M.val r n + M.val s n) → Q (.ref t) H'
/-- list(x) + [0] * m -/
theorem padL {i j : Nat} {σ : L2.St} {H : Hp} {a : Addr} {r : List Int} {m : Nat} {Q : VK} (h1 : σ[i]? = some (some (.ref a))) (h2 : σ[j]? = some (some (.int (m : Int)))) (hS : SeqI K H a r) (hm : r.length + m ≤ 1000)
    (k : ∀ (d : Addr) (H' : Hp), Same H H' → H d = none → H' d = some (.lst ((r ++ List.replicate m 0).map V.int)) → Q (.ref d) H') :
    tOp rCat (tCB (rListQ K) (tCons (tVar i) tNil)) (tOp rRep (tLst (tCons (tC (.int 0)) tNil)) (tVar j)) σ H Q := by
  refine ⟨_, h1, a, _, rfl, hS, fun l hl => ?_⟩
  have s1 := same_new (Same.refl H) (.lst (r.map V.int)) hl
  refine ⟨(by show 1 ≤ sizeLine; decide), fun l2 hl2 => ?_⟩
  have s2 := same_new s1 (.lst [.int 0]) hl2
  have e1 := same_new (Same.refl _) (.lst [.int 0]) hl2 _ _ (show (upd H l (.lst (r.map V.int))) l = some (.lst (r.map V.int)) from upd_same)
  refine ⟨_, h2, l2, _, _, rfl, rfl, upd_same, by omega, by omega, ?_, fun l3 hl3 => ?_⟩
  · show 1 * ((m : Int)).toNat ≤ sizeLine
    exact Nat.le_trans (by omega : 1 * ((m : Int)).toNat ≤ 1000) (Nat.le_of_lt (small1000 (Nat.le_refl _)))
  have er : (List.replicate ((m : Int)).toNat [V.int 0]).flatten = (List.replicate m (0 : Int)).map V.int := by
    rw [show ((m : Int)).toNat = m by omega]
    clear hm h2 hl3 k
    induction m with
    | zero => rfl
    | succ m ih => rw [List.replicate_succ, List.flatten_cons, ih, List.replicate_succ]; rfl
  rw [er]
  have s3 := same_new s2 (.lst ((List.replicate m (0 : Int)).map V.int)) hl3
  have e2 := same_new (Same.refl _) (.lst ((List.replicate m (0 : Int)).map V.int)) hl3 _ _ e1
  refine ⟨l, l3, _, _, rfl, rfl, e2, upd_same, ?_, fun l4 hl4 => ?_⟩
  · rw [List.length_map, List.length_map, List.length_replicate]
    exact Nat.le_of_lt (small1000 hm)
  rw [← List.map_append]
  exact k l4 _ (same_new s3 _ hl4) (s3.free hl4) upd_same
theorem ok_lplus (F : Fun K "_law_plus" "_law_plus" s_lplus f fd) (T : Blt mg) (G_cut : Has P w K mg base 1 "_law_cut" ["_law_row_here"] (spCut K)) : FnOk P w K mg base CX0 2 f fd ["_law_one", "_law_two"] (spLPlus K) := by
  refine F.ok sc_lplus (fun vs H Q E h => ?_) (fun cdv A outer s H vs Q E hr h => ?_)
  · obtain ⟨_, _, _, _, rfl, _⟩ := h
    rfl
  · obtain ⟨a, a', r, s', rfl, hS, hS', hl, hl', k⟩ := h
    refine ⟨_, (pss_cons (ps_set (i := 2) sc_lplus.nd rfl (Or.inl rfl) (pe_callB (call_max2 rfl) (by rfl) T.max_ (by decide +kernel) (pa_cons (pe_callB (show CallR _ _ (rLenQ K) from c_len) (by rfl) T.len_ (by decide +kernel) (pa_cons (pv 0) pa_nil)) (pa_cons (pe_callB (show CallR _ _ (rLenQ K) from c_len) (by rfl) T.len_ (by decide +kernel) (pa_cons (pv 1) pa_nil)) pa_nil))))
    (pss_cons (ps_asg (pe_tup (pa_cons (pe_op op_cat (pe_callTy (show CallR _ _ (rListQ K) from c_list) (by rfl) T.list_ (by decide +kernel) (pa_cons (pv 0) pa_nil)) (pe_op op_rep (pe_lst (pa_cons pe_int pa_nil)) (pv 2))) (pa_cons (pe_op op_cat (pe_callTy (show CallR _ _ (rListQ K) from c_list) (by rfl) T.list_ (by decide +kernel) (pa_cons (pv 1) pa_nil)) (pe_op op_rep (pe_lst (pa_cons pe_int pa_nil)) (pv 2))) pa_nil))) (pg_tup rfl (pgs_cons (pg_name (i := 3) sc_lplus.nd rfl (Or.inr rfl)) (pgs_cons (pg_name (i := 4) sc_lplus.nd rfl (Or.inr rfl)) pgs_nil))))
    (pss_one (ps_ret (pe_has G_cut (hr.mono (by decide)) (pa_cons (pe_lc (own := [("_law_k", 5)]) (g := gName 5) (tt := tYes) (by rfl) sc_lplus.nd (pi_range1 (by rfl) T.range_ (pa_cons (pv 2) pa_nil)) (blkOk_by (own := [("_law_k", 5)]) (N := N_lplus) (sc := defScope s_lplus) (by decide +kernel)) (fun _ _ _ _ _ => (pg_name (i := 5) sc_lplus.nd rfl (by first | exact Or.inl rfl | exact Or.inr rfl))) (fun _ _ _ _ _ => pts_nil) (fun _ _ _ _ _ => (pe_op op_add (pe_ix (show IxR _ (rIxL K) from ix_list) (pv 3) (pv 5) (fun _ _ => rfl)) (pe_ix (show IxR _ (rIxL K) from ix_list) (pv 4) (pv 5) (fun _ _ => rfl))))) pa_nil)))))), ?_⟩
    refine ⟨_, rfl, a, _, rfl, hS, _, rfl, a', _, rfl, hS', _, _, rfl, ?_⟩
    obtain ⟨m, hm⟩ : ∃ m : Nat, m = max r.length s'.length := ⟨_, rfl⟩
    have em : (if ((s'.map V.int).length : Int) > ((r.map V.int).length : Int) then ((s'.map V.int).length : Int) else ((r.map V.int).length : Int)) = (m : Int) := by
      rw [List.length_map, List.length_map]
      split <;> omega
    rw [em]
    refine padL rfl rfl hS (by omega) fun d1 H1 s1 nd1 h1 => ?_
    refine padL rfl rfl (SeqI.same s1 hS') (by omega) fun d2 H2 s2 nd2 h2 => ?_
    refine ⟨(by show 2 ≤ sizeLine; decide), fun t ht => ⟨t, _, rfl, SqT.of upd_same, rfl, _, _, rfl, _, _, rfl, rfl, ?_⟩⟩
    have st := same_new (Same.refl H2) (.tup [.ref d1, .ref d2]) ht
    have g1 := st _ _ (s2 _ _ h1)
    have g2 := st _ _ h2
    generalize upd H2 t (.tup [.ref d1, .ref d2]) = H3 at st g1 g2 ⊢
    refine ⟨_, rfl, (m : Int), rfl, by omega, by omega, fun D hD => ?_⟩
    rw [show ((m : Int)).toNat = m by omega]
    refine ZK.lc_growR m (small1000 (by omega)) (fun _ H' => Same H3 H') (fun i y => y = .int ((r ++ List.replicate m 0).getD i 0 + (s' ++ List.replicate m 0).getD i 0)) (same_new (Same.refl _) _ hD) ?_ ?_
    · intro i H4 acc hi s4 hacc hal hR Qn hq
      rw [Int.zero_add]
      have a1 := (get_int (r := r ++ List.replicate m 0) (e := i) (by rw [List.length_append, List.length_replicate]; omega)).1
      have a2 := (get_int (r := s' ++ List.replicate m 0) (e := i) (by rw [List.length_append, List.length_replicate]; omega)).1
      exact ⟨rfl, _, rfl, _, rfl, d1, _, _, _, rfl, rfl, SqL.of (s4 _ _ g1), at_of (by omega) a1, _, rfl, _, rfl, d2, _, _, _, rfl, rfl, SqL.of (s4 _ _ g2), at_of (by omega) a2, _, _, rfl, rfl, hq _ _ rfl hacc (same_but_new s4 hD)⟩
    · intro H4 acc s4 hacc hal hR
      have e := ZK.eq_map hal hR
      have s34 := ((s1.trans s2).trans st).trans s4
      refine ⟨D, (List.range m).map (fun i => (r ++ List.replicate m 0).getD i 0 + (s' ++ List.replicate m 0).getD i 0), rfl, .inl (SqL.of (by rw [hacc, e, List.map_map]; rfl)), by rw [List.length_map, List.length_range]; omega, fun t2 H5 s5 ht2 => k t2 _ H5 (s34.trans s5) ht2 (by rw [List.length_map, List.length_range]; exact hm) fun n => ?_⟩
      rw [M.val_range, M.val_upto n r (m := m) (by omega), M.val_upto n s' (m := m) (by omega), ← M.sum_add]
      congr 1
      refine List.map_congr_left fun i _ => ?_
      have pad : ∀ l : List Int, (l ++ List.replicate m 0).getD i 0 = l.getD i 0 := fun l => by
        rw [List.getD_eq_getElem?_getD, List.getD_eq_getElem?_getD]
        by_cases h : i < l.length
        · rw [List.getElem?_append_left h]
        · rw [List.getElem?_append_right (by omega), List.getElem?_eq_none (l := l) (by omega), List.getElem?_replicate]
          split <;> rfl
      rw [pad, pad, Int.add_mul]
end
end EN

namespace EN
open PySem L2 PyProof.Rows
section
variable {P : Program} {w : World} {K : PySem.W.Frag} {mg : Str → Option Value} {base : Heap} {f : Addr} {fd : FuncData}
open SG
theorem fold_ne (n : Int) : ∀ (fs : List (Int × Int)) (v : Int), v ≠ 0 → (∀ q ∈ fs, lin q n ≠ 0) → fs.foldl (fun v q => v * lin q n) v ≠ 0
  | [], _, h, _ => h
  | q :: fs, v, h, hq => by
    rw [List.foldl_cons]
    exact fold_ne n fs _ (Int.mul_ne_zero h (hq q (by simp))) fun r hr => hq r (by simp [hr])
/-- the thing's amount times c -/
def scl (t : Thing) (c : Int) : Thing := { t with A := c * t.A }
theorem scl_at (t : Thing) (c n : Int) : (scl t c).at n = c * t.at n := by
  unfold Thing.at scl
  dsimp only
  rw [Int.mul_assoc, fold_mul]
theorem good_neg {th : Thing} {base : Int} (g : TGood th base) : TGood (scl th (-1)) base := ⟨g.m2, g.fs2, g.b0, g.b1, g.rlo, g.rhi, by
  have := g.A
  show Sz 202 (-1 * th.A)
  unfold Sz at *
  omega, g.fs⟩
theorem thg_zero {t : Thing} (h : t.A = 0) (n : Int) : t.at n = 0 := by
  unfold Thing.at
  have := fold_mul n 0 t.fs 1
  rw [Int.zero_mul, Int.zero_mul] at this
  rw [h, Int.zero_mul]
  exact this
theorem thg_ne {t : Thing} {base : Int} (g : TGood t base) (h : t.A ≠ 0) : ∃ n : Int, t.at n ≠ 0 := by
  refine ⟨base + 20, ?_⟩
  unfold Thing.at
  have m2 := g.m2
  have r2 := g.rhi
  refine fold_ne _ _ _ (Int.mul_ne_zero h (Int.ne_of_gt (C_pos t.m _ (by omega)))) fun q hq => ?_
  have gq := g.fs q hq
  have h1 : q.2 < q.1 * (q.2 / q.1) + q.1 := Int.lt_mul_ediv_self_add (by omega)
  have h2 : q.1 * (q.2 / q.1 + 1) ≤ q.1 * (base + 20) := Int.mul_le_mul_of_nonneg_left (by omega) (by omega)
  rw [Int.mul_add, Int.mul_one] at h2
  unfold lin
  omega
/-- two rows are the same exactly when the thing between them is nothing -/
theorem same_rows {th : Thing} {base : Int} (g : TGood th base) {P r : List Int} (h : ∀ n, M.val P n = M.val r n + th.at n) : decide (M.cut (M.cut P) = M.cut r) = decide (th.A = 0) := by
  refine decide_eq_decide.mpr ⟨fun e => ?_, fun e => ?_⟩
  · refine Classical.byContradiction fun ne => ?_
    obtain ⟨n, hn⟩ := thg_ne g ne
    have h1 := h n
    rw [← M.cut_val P n, ← M.cut_val (M.cut P) n, e, M.cut_val] at h1
    omega
  · rw [M.cut_cut]
    exact M.cut_unique fun k => by rw [h, thg_zero e, Int.add_zero]
/-- what stands around the comparisons of the law -/
theorem cmpC_of {th : Thing} {base : Int} (g : TGood th base) {ms ns : List Int} (l1 : ms.length ≤ 6) (l2 : ns.length ≤ 6) (z1 : SzA 1900 ms) (z2 : SzA 1900 ns) (h : ∀ n, M.val (M.less ms ns) n = th.at n) : CmpC ms ns (max (base + 17) (0 + 6)) := by
  have lcl := cut_len (M.less ms ns)
  have ll := M.less_len ms ns
  refine ⟨l1, l2, z1, z2, ?_, by omega, RowThg.far g h (by omega) (g.seams 0)⟩
  have h1 := g.b0
  have h2 := g.b1
  unfold Sz at *
  omega
theorem cmpC_self {ns : List Int} (l2 : ns.length ≤ 6) (z2 : SzA 1900 ns) : CmpC ns ns 0 := by
  refine ⟨l2, l2, z2, z2, by unfold Sz; decide, Int.le_refl _, ?_⟩
  have e : M.cut (M.less ns ns) = M.cut [] := M.cut_unique fun k => by
    rw [M.less_val, Int.sub_self, M.val_upto (k : Int) [] (m := 0) (by decide)]
    rfl
  rw [e]
  intro k a hk
  exact absurd hk (by show ¬ k < 0; omega)
/-- the thing's amount is put to nothing -/
theorem good_zero {th : Thing} {base : Int} (g : TGood th base) : TGood (scl th 0) base := ⟨g.m2, g.fs2, g.b0, g.b1, g.rlo, g.rhi, by
  show Sz 202 (0 * th.A)
  rw [Int.zero_mul]
  unfold Sz
  decide, g.fs⟩
end
end EN

namespace EN
open PySem L2 PyProof.Rows
section
variable {P : Program} {w : World} {K : PySem.W.Frag} {mg : Str → Option Value} {base : Heap} {f : Addr} {fd : FuncData}
open SG
def spLawH (K : PySem.W.Frag) : Sp := fun vs H Q _ => ∃ (a : Addr) (ns : List Int), vs = [.ref a] ∧ SqL K H a (ns.map V.int) ∧ ns.length ≤ 63 ∧ ∀ H' : Hp, Q (.bl true) H'
abbrev s_law : Stmt := top 54
abbrev N_law : List Str := ["_law_script", "_law_pen_here", "_law_again", "_law_thing_here", "_law_row_here", "_law_amount", "_law_signs", "_law_one", "_law_other", "_law_low", "_law_high", "_law_sign_here"]
theorem sc_law : FnScope N_law ["_law_script"] (defScope s_law) := ⟨rfl, rfl, rfl, by decide +kernel, rfl, by decide +kernel, by decide +kernel⟩

set_option maxHeartbeats 8000000 in
theorem ok_law {C_Size : Addr} (F : Fun K "law" "law" s_law f fd) (T : Blt mg) (g_Size : mg "Size" = some (.ref C_Size))
    (G_pen : Has P w K mg base 1 "_law_pen" ["_law_script"] (spPen K)) (G_draw : Has P w K mg base 1 "_law_draw" ["_law_pen_here", "_law_many"] spDraw)
    (G_integer : Has P w K mg base 3 "_law_integer" ["_law_pen_here"] spInteger) (G_base : Has P w K mg base 3 "_law_base" ["_law_pen_here"] spBaseS) (G_thing : Has P w K mg base 3 "_law_thing" ["_law_pen_here", "_law_base_here"] (spThing K)) (G_lrow : Has P w K mg base 4 "_law_row" ["_law_pen_here", "_law_most"] spRow)
    (G_thing_row : Has P w K mg base 3 "_law_thing_row" ["_law_thing_here"] (spThingRow K)) (G_thing_signs : Has P w K mg base 3 "_law_thing_signs" ["_law_thing_here", "_law_low", "_law_high"] (spThingSigns K)) (G_lplus : Has P w K mg base 2 "_law_plus" ["_law_one", "_law_two"] (spLPlus K))
    (G_compares : Has P w K mg base 11 "_law_compares" ["_law_one", "_law_other", "_law_signs"] (spComS K C_Size)) (G_compares_i : Has P w K mg base 11 "_law_compares" ["_law_one", "_law_other", "_law_signs"] (spComI K C_Size))
    (G_Size : MkH P w K mg base 3 C_Size [] (spSInit K C_Size)) (G_Size_eq : EO.OpH P w K mg base 1 C_Size "__eq__" (spSEq K C_Size)) :
    FnOk P w K mg base CX0 13 f fd ["_law_script"] (spLawH K) := by
  refine F.ok sc_law (fun vs H Q E h => ?_) (fun cdv A outer s H vs Q E hr h => ?_)
  · obtain ⟨a, ns, rfl, _⟩ := h
    rfl
  · obtain ⟨a, ns, rfl, hS, hn, k⟩ := h
    have hu := hu_of hr
    refine ⟨_, (pss_cons (ps_set (i := 1) sc_law.nd rfl (Or.inl rfl) (pe_has G_pen (hr.mono (by decide)) (pa_cons (pv 0) pa_nil)))
    (pss_cons (ps_for PassesOwn.never rfl (pi_range1 (by rfl) T.range_ (pa_cons (pe_op op_add pe_int (pe_callB (call_min2 rfl) (by rfl) T.min_ (by decide +kernel) (pa_cons pe_int (pa_cons (pe_callB (show CallR _ _ (rLenQ K) from c_len) (by rfl) T.len_ (by decide +kernel) (pa_cons (pv 0) pa_nil)) pa_nil)))) pa_nil)) (pg_name (i := 2) sc_law.nd rfl (Or.inl rfl))
      (pss_cons (ps_par3 (i := 3) (j := 4) (l := 5) (by rfl) sc_law.nd rfl rfl rfl (by decide) (by decide) (by decide) rfl rfl rfl (pa_cons (pe_has G_thing (hr.mono (by decide)) (pa_cons (pv 1) (pa_cons (pe_has G_base (hr.mono (by decide)) (pa_cons (pv 1) pa_nil)) pa_nil))) (pa_cons (pe_has G_lrow (hr.mono (by decide)) (pa_cons (pv 1) (pa_cons pe_int pa_nil))) (pa_cons (pe_has G_integer (hr.mono (by decide)) (pa_cons (pv 1) pa_nil)) pa_nil))) (by rfl))
      (Evl.pss_cut (ps_if (pt_cmpR op_eq (pe_has G_draw (hr.mono (by decide)) (pa_cons (pv 1) (pa_cons pe_int pa_nil))) pe_int (nomark _))
        (pss_one (ps_dput hu (pv 3) pe_str pe_int rfl))
        pss_nil)
      (pss_cons (ps_setLc (i := 6) (own := [("_law_low", 9), ("_law_high", 10), ("_law_sign_here", 11)]) (g := gTup K 3 (gCons (gName 9) (gCons (gName 10) (gCons (gName 11) gNil)))) (tt := tYes) (by rfl) sc_law.nd rfl rfl (sw_true rfl rfl rfl (by decide +kernel)) (pi_list (pe_has G_thing_signs (hr.mono (by decide)) (pa_cons (pv 3) (pa_cons pe_int (pa_cons pe_non pa_nil))))) (blkOk_by (own := [("_law_low", 9), ("_law_high", 10), ("_law_sign_here", 11)]) (N := N_law) (sc := defScope s_law) (by decide +kernel)) (fun _ _ _ _ _ => (pg_tup rfl (pgs_cons (pg_name (i := 9) sc_law.nd rfl (by first | exact Or.inl rfl | exact Or.inr rfl)) (pgs_cons (pg_name (i := 10) sc_law.nd rfl (by first | exact Or.inl rfl | exact Or.inr rfl)) (pgs_cons (pg_name (i := 11) sc_law.nd rfl (by first | exact Or.inl rfl | exact Or.inr rfl)) pgs_nil))))) (fun _ _ _ _ _ => pts_nil) (fun _ _ _ _ _ => (pv 11)))
      (pss_cons (ps_par (i := 7) (j := 8) (by rfl) sc_law.nd rfl rfl (by decide) rfl rfl (pa_cons (pe_mkH G_Size (hr.mono (by decide)) (by rfl) g_Size (pa_cons (pe_has G_lplus (hr.mono (by decide)) (pa_cons (pv 4) (pa_cons (pe_has G_thing_row (hr.mono (by decide)) (pa_cons (pv 3) pa_nil)) pa_nil))) pa_nil)) (pa_cons (pe_mkH G_Size (hr.mono (by decide)) (by rfl) g_Size (pa_cons (pv 4) pa_nil)) pa_nil)) (by rfl))
      (pss_cons (ps_if (pt_not (pt_val (pe_has G_compares (hr.mono (by decide)) (pa_cons (pv 7) (pa_cons (pv 8) (pa_cons (pv 6) pa_nil))))))
        (pss_one (ps_ret pe_bl))
        pss_nil)
      (pss_cons (ps_if (pt_not (pt_val (pe_has G_compares_i (hr.mono (by decide)) (pa_cons (pe_mkH G_Size (hr.mono (by decide)) (by rfl) g_Size (pa_cons (pe_has G_lplus (hr.mono (by decide)) (pa_cons (pe_has G_thing_row (hr.mono (by decide)) (pa_cons (pv 3) pa_nil)) (pa_cons (pe_lst (pa_cons (pv 5) pa_nil)) pa_nil))) pa_nil)) (pa_cons (pv 5) (pa_cons (pv 6) pa_nil))))))
        (pss_one (ps_ret pe_bl))
        pss_nil)
      (pss_one (ps_if (PW.pt (pw_or (pt_cmpR op_ne (pe_cmpR (EO.op_coo (by decide) G_Size_eq (hr.mono (by decide))) (pv 7) (pv 8) (nomark _)) (pe_cmpR op_eq (pe_dget hu (pv 3) pe_str (fun _ _ => rfl)) pe_int (nomark _)) (nomark _)) (pw_or1 (pt_not (pt_val (pe_has G_compares (hr.mono (by decide)) (pa_cons (pv 8) (pa_cons (pv 8) (pa_cons (pe_lst (pa_cons pe_int pa_nil)) pa_nil)))))))))
        (pss_one (ps_ret pe_bl))
        pss_nil)))))))))
    (pss_one (ps_ret pe_bl)))), ?_⟩
    refine ⟨_, rfl, a, ns, rfl, hS, hn, fun p c H1 s1 np nc P1 => ?_⟩
    refine ⟨_, rfl, a, _, rfl, .inl (s1.seq hS), 2, _, rfl, 2, _, rfl, rfl, _, rfl, ?_, ?_, ?_⟩
    · split <;> omega
    · rw [List.length_map]
      split <;> omega
    have hm : (2 + if ((ns.map V.int).length : Int) < 2 then ((ns.map V.int).length : Int) else 2).toNat ≤ 4 := by split <;> omega
    generalize (2 + if ((ns.map V.int).length : Int) < 2 then ((ns.map V.int).length : Int) else 2).toNat = m at hm
    refine for_range (lo := 0) (n := m) (fun i σ H' => ∃ v2 v3 v4 v5 v6 v7 v8 : Option V, Pen H' p c ns (800 * i) ∧ σ = [some (.ref a), some (.ref p), v2, v3, v4, v5, v6, v7, v8, none, none, none]) ⟨none, none, none, none, none, none, none, P1, rfl⟩ ?_ ?_
    · rintro i σ H10 hi ⟨v2, v3, v4, v5, v6, v7, v8, P10, rfl⟩
      clear P1 hS s1
      refine ⟨_, rfl, _, rfl, p, c, ns, _, rfl, P10, by omega, fun b H11 b0 b1 P11 t11 => ?_⟩
      have zb : Sz 200 b := by
        have s60 : Sz 200 ((10 : Int) ^ (60 : Int).toNat) := by unfold Sz; decide +kernel
        unfold Sz at *
        omega
      refine ⟨p, c, ns, _, b, rfl, P11, by omega, b0, zb, fun t th0 H12 P12 t12 nt12 ntp hT12 g0 => ?_⟩
      refine ⟨_, rfl, p, c, ns, _, 4, rfl, P12, by decide, by decide, by omega, fun lr r0 H13 hrl hrx P13 b13 nlr hl13 => ?_⟩
      replace hT12 := hT12.but P12 b13
      refine ⟨_, rfl, p, c, ns, _, rfl, P13, by omega, fun am H14 zam P14 b14 => ⟨_, _, _, rfl, ?_⟩⟩
      replace hT12 := hT12.but P13 b14
      have hq : SqL K H14 lr (r0.map V.int) := P13.sqL b14 (SqL.of hl13)
      clear hl13 b14 b13 P13 P12 P11 P10 t11 t12 nt12
      refine ⟨fun σ' H' => ∃ th : Thing, Pen H' p c ns (800 * i + 700) ∧ ThgAt K H' t th ∧ TGood th b ∧ SqL K H' lr (r0.map V.int) ∧ σ' = [some (.ref a), some (.ref p), some (.int (0 + (i : Int))), some (.ref t), some (.ref lr), some (.int am), v6, v7, v8, none, none, none], ?_, ?_⟩
      · refine ⟨_, rfl, p, c, ns, _, 8, rfl, P14, by omega, by decide, lit8 _ (by decide) (by decide), fun d H15 d0 d1 P15 b15 => ?_⟩
        replace hT12 := hT12.but P14 b15
        replace hq := P14.sqL b15 hq
        by_cases zd : d = 0
        · refine ⟨rfl, true, congrArg V.bl (decide_eq_true (congrArg V.int zd)), iteT ?_⟩
          obtain ⟨fl, bs, ht, hfl, hbl, hbq⟩ := hT12
          refine ⟨_, rfl, t, _, rfl, .inl ⟨_, kA, ht, rfl, (by show 4 < sizeLine; decide), rfl⟩, ?_⟩
          have n1 : (Str.ofString "factors" = Str.ofString "amount") = False := eq_false (by decide +kernel)
          have n2 : (Str.ofString "root" = Str.ofString "amount") = False := eq_false (by decide +kernel)
          have n3 : (Str.ofString "many" = Str.ofString "amount") = False := eq_false (by decide +kernel)
          have ep : putK (thL th0.A fl th0.R th0.m) kA (.int 0) = thL (scl th0 0).A fl th0.R th0.m := by
            show _ = thL (0 * th0.A) fl th0.R th0.m
            rw [Int.zero_mul]
            unfold thL putK
            simp [n1, n2, n3]
          rw [ep]
          have ct : c ≠ t := ne_of P15.cells ht (by intro z; cases z)
          have flt : fl ≠ t := ne_of hfl ht (by intro z; cases z)
          refine ⟨scl th0 0, (P15.stay (upd_ne ntp.symm) (upd_ne ct)).more (by omega) (by omega), ⟨fl, bs, upd_same, ?_, hbl, fun j e q e3 e4 => sqT_updD (hbq j e q e3 e4) ht⟩, good_zero g0, sqL_but (p := t) ((But.refl t H15).upd _) (fun o z => by rw [ht] at z; cases z; exact ⟨(by intro q; cases q), (by intro u q; cases q)⟩) hq, rfl⟩
          rw [upd_ne flt]
          exact hfl
        · exact ⟨rfl, false, congrArg V.bl (decide_eq_false fun z => zd (V.int.inj z)), iteF ⟨th0, P15.more (by omega) (by omega), hT12, g0, hq, rfl⟩⟩
      · rintro σ' H15 ⟨th, P15, hT15, g, hq15, rfl⟩
        clear P14 hT12 hq g0
        refine ⟨_, rfl, t, th, b, 0, none, rfl, hT15, g, (by unfold Sz; decide), (fun h e => nomatch e), fun l bs ts H16 s16 nl16 hl16 hbs16 cv al tl => ?_⟩
        refine ⟨l, rfl, ⟨_, SqL.of hl16⟩, fun D hD => ?_⟩
        refine ZK.lc_growL (K := K) (a := l) (xs := bs.map V.ref) (small1000 (by rw [List.length_map, hbs16.1]; omega)) (fun _ H' => Same H16 H') (fun i y => y = .int ((sgs ts).getD i 0)) (same_new (Same.refl _) _ hD) (fun i H' s' => s'.seq (SqL.of hl16)) ?_ ?_
        · intro j x H17 acc hx s17 hacc hal hR Qn hq
          have il : j < ts.length := by
            have := (List.getElem?_eq_some_iff.mp hx).1
            rwa [List.length_map, hbs16.1] at this
          obtain ⟨e, q, ee, eq, he⟩ := hbs16.get il
          rw [List.getElem?_map, ee] at hx
          cases hx
          refine ⟨e, _, rfl, sqT_same s17 he, rfl, _, _, rfl, _, _, rfl, _, _, rfl, rfl, rfl, _, rfl, hq _ _ ?_ hacc (same_but_new s17 hD)⟩
          rw [List.getD_eq_getElem?_getD, List.getElem?_map, eq]
          rfl
        intro H17 acc s17 hacc hal hR
        have e := ZK.eq_map hal hR
        have hD17 : H17 D = some (.lst ((sgs ts).map V.int)) := by
          have := range_ints (sgs ts) fun a => a
          rw [List.length_map] at this
          rw [hacc, e, List.length_map, hbs16.1, this, List.map_id']
        have s1617 := s16.trans s17
        replace P15 := P15.same s1617
        replace hT15 := hT15.same s1617
        replace hq15 := s1617.seq hq15
        clear s1617 s16 s17 hl16 hbs16 hacc hal hR e hD nl16
        have hx0 : SzA 1200 r0 := fun x hx => (hrx x hx).mono (by decide)
        refine ⟨_, rfl, _, rfl, t, th, b, rfl, hT15, g, fun u r H18 s18 hu18 rl rz rv => ?_⟩
        have lc := cut_len r
        have lc0 := cut_len r0
        refine ⟨lr, u, r0, M.cut r, rfl, .inl (s18.seq hq15), .inr hu18, by omega, by omega, fun t19 R H19 s19 ht19 lR vR => ?_⟩
        have lcR := cut_len R
        have lR5 : R.length ≤ 5 := by
          rw [lR]
          omega
        refine fun z1 d1 nz1 nd1 ne1 => madeQ (a := t19) (r := M.cut R) (.inr ht19) (by omega) nz1 nd1 ne1 fun H20 s20 hz20 => ⟨rfl, ?_⟩
        have s1720 := (s18.trans s19).trans s20
        refine ⟨_, rfl, fun z2 d2 nz2 nd2 ne2 => madeQ (a := lr) (r := r0) (.inl (s1720.seq hq15)) (by omega) nz2 nd2 ne2 fun H21 s21 hz21 => ⟨rfl, _, _, rfl, ?_⟩⟩
        have s1721 := s1720.trans s21
        have hz1 := hz20.same s21
        have hD21 := s1721 _ _ hD17
        replace P15 := P15.same s1721
        replace hT15 := hT15.same s1721
        clear s1721 s1720 s21 s20 s19 s18 hq15 hz20 ht19 hu18 nz1 nz2 nd1 nd2 ne1 ne2 hD17
        have lcc := cut_len (M.cut R)
        have vv : ∀ n, M.val (M.cut (M.cut R)) n = M.val r0 n + th.at n := fun n => by rw [M.cut_val, M.cut_val, vR, M.cut_val, rv]
        have vl : ∀ n, M.val (M.less (M.cut (M.cut R)) (M.cut r0)) n = th.at n := fun n => by
          rw [M.less_val, vv, M.cut_val]
          omega
        have vl2 : ∀ n, M.val (M.less (M.cut r0) (M.cut (M.cut R))) n = (scl th (-1)).at n := fun n => by
          rw [M.less_val, vv, M.cut_val, scl_at]
          omega
        have eR : M.cut R = M.cut (M.plus r0 (M.cut r)) := M.cut_unique fun k => by rw [vR, M.plus_val]
        have szR : SzA 1900 (M.cut (M.cut R)) := by
          rw [M.cut_cut, eR]
          exact ((SzA.plus hx0 rz.cut).cut).mono (by decide)
        have sz0 : SzA 1900 (M.cut r0) := (hx0.cut).mono (by decide)
        have cvs : ∀ {ms ns : List Int}, (∀ n, M.val (M.less ms ns) n = th.at n) → Cov (M.val (M.less ms ns)) 0 none ts := fun h => by
          rw [funext h]
          exact cv
        refine ⟨_, rfl, _, rfl, _, rfl, z1, z2, D, M.cut (M.cut R), M.cut r0, _, ts, rfl, hz1, hz21, cmpC_of g (by omega) (by omega) szR sz0 vl, cmpC_of (good_neg g) (by omega) (by omega) sz0 szR vl2, SqL.of hD21, cvs vl, al, by omega, fun H22 s22 => ⟨true, rfl, iteF ?_⟩⟩
        replace hz1 := hz1.same s22
        replace hz21 := hz21.same s22
        replace hD21 := s22 _ _ hD21
        replace P15 := P15.same s22
        replace hT15 := hT15.same s22
        clear s22
        refine ⟨_, rfl, t, th, b, rfl, hT15, g, fun u2 r2 H23 s23 hu23 rl2 rz2 rv2 => ?_⟩
        refine ⟨_, rfl, (by show 1 ≤ sizeLine; decide), fun l24 nl24 => ?_⟩
        have s24 := same_new (Same.refl H23) (.lst [.int am]) nl24
        have hl24 : (L2.upd H23 l24 (.lst [.int am])) l24 = some (.lst ([am].map V.int)) := upd_same
        generalize L2.upd H23 l24 (.lst [.int am]) = H24 at s24 hl24 ⊢
        have lc2 := cut_len r2
        refine ⟨u2, l24, M.cut r2, [am], rfl, .inr (sqT_same s24 hu23), .inl (SqL.of hl24), by omega, (by show 1 ≤ 300; decide), fun t25 R2 H25 s25 ht25 lR2 vR2 => ?_⟩
        have lR25 : R2.length ≤ 5 := by
          rw [lR2]
          show max (M.cut r2).length 1 ≤ 5
          omega
        have lcR2 := cut_len R2
        have lccR2 := cut_len (M.cut R2)
        have zam1 : SzA 1200 [am] := fun x hx => by
          rw [List.mem_singleton.mp hx]
          exact zam.mono (by decide)
        have eR2 : M.cut R2 = M.cut (M.plus (M.cut r2) [am]) := M.cut_unique fun k => by rw [vR2, M.plus_val]
        have szR2 : SzA 1900 (M.cut (M.cut R2)) := by
          rw [M.cut_cut, eR2]
          exact ((SzA.plus rz2.cut zam1).cut).mono (by decide)
        have vl3 : ∀ n, M.val (M.less (M.cut (M.cut R2)) [am]) n = th.at n := fun n => by
          rw [M.less_val, M.cut_val, M.cut_val, vR2, M.cut_val, rv2]
          omega
        refine fun z3 d3 nz3 nd3 ne3 => madeQ (a := t25) (r := M.cut R2) (.inr ht25) (by omega) nz3 nd3 ne3 fun H26 s26 hz26 => ⟨rfl, ?_⟩
        have s2226 := ((s23.trans s24).trans s25).trans s26
        refine ⟨_, rfl, _, rfl, z3, D, am, M.cut (M.cut R2), _, ts, rfl, hz26, cmpC_of g (by omega) (by show 1 ≤ 6; decide) szR2 (zam1.mono (by decide)) vl3, SqL.of (s2226 _ _ hD21), cvs vl3, al, by omega, fun H27 s27 => ⟨true, rfl, iteF ?_⟩⟩
        have s2227 := s2226.trans s27
        replace hz1 := hz1.same s2227
        replace hz21 := hz21.same s2227
        replace P15 := P15.same s2227
        replace hT15 := hT15.same s2227
        clear s2227 s2226 s27 s26 s25 s24 s23 hz26 ht25 hl24 hu23 nl24 nz3 nd3 ne3
        obtain ⟨e1, q1, g1, _, _⟩ := id hz1
        obtain ⟨e2, q2, g2, _, _⟩ := id hz21
        have gA : DGet H27 t (.str "amount") (some (.int th.A)) := by
          obtain ⟨fl, bs', ht, _⟩ := id hT15
          have z := DGet.k (k := kA) ht
          rw [th_a] at z
          exact z
        have eqA : decide (V.int th.A = V.int 0) = decide (th.A = 0) := decide_eq_decide.mpr ⟨fun h => V.int.inj h, fun h => congrArg V.int h⟩
        have eqR := same_rows g (P := R) (r := r0) fun n => by rw [vR, M.cut_val, rv]
        refine ⟨_, rfl, _, rfl, z1, e1, _, z2, e2, _, rfl, rfl, g1, g2, z1, z2, _, _, rfl, hz1, hz21, ?_⟩
        refine ⟨_, rfl, t, _, rfl, gA, rfl, rfl, false, by rw [eqR, eqA, decide_eq_true rfl]; rfl, iteF ?_⟩
        refine ⟨_, rfl, _, rfl, (by show 1 ≤ sizeLine; decide), fun l28 nl28 => ?_⟩
        have s28 := same_new (Same.refl H27) (.lst [.int 0]) nl28
        have hl28 : (L2.upd H27 l28 (.lst [.int 0])) l28 = some (.lst ((sgs [(0, none, 0)]).map V.int)) := upd_same
        generalize L2.upd H27 l28 (.lst [.int 0]) = H28 at s28 hl28 ⊢
        have self0 : ∀ n, M.val (M.less (M.cut r0) (M.cut r0)) n = 0 := fun n => by rw [M.less_val, Int.sub_self]
        refine ⟨z2, z2, l28, M.cut r0, M.cut r0, 0, [(0, none, 0)], rfl, hz21.same s28, hz21.same s28, cmpC_self (by omega) sz0, cmpC_self (by omega) sz0, SqL.of hl28, cov_one (fun n _ => by rw [self0]; rfl) ⟨by decide, fun h e => nomatch e⟩, trivial, by decide, fun H29 s29 => ⟨true, rfl, iteF ?_⟩⟩
        exact ⟨_, _, _, _, _, _, _, (P15.same (s28.trans s29)).more (by omega) (by omega), rfl⟩
    · rintro σ H10 ⟨v2, v3, v4, v5, v6, v7, v8, P10, rfl⟩
      exact k H10
end
end EN

namespace EN
open PySem L2 PyProof.Rows
section
variable {P : Program} {w : World} {K : PySem.W.Frag} {mg : Str → Option Value} {base : Heap} {f : Addr} {fd : FuncData}
theorem has_of {h : Heap} {x : Str} {st : Stmt} {k : Nat} {ps : List Str} {sp : Sp} (X : K.In h) (G : h.Ns mainGlobals mg) (F : Fun K x x st f fd) (a : PySem.W.nsIn K mainGlobals x = some (some (.ref f))) (ok : FnOk P w K mg base CX0 k f fd ps sp) (b : Binds K fd ps []) : Has P w K mg base k x ps sp := ⟨f, fd, ok, PySem.W.mg_of X G a, F.kp, b⟩
theorem rawN {k : Nat} {ps : List Str} {sp : Sp} (ok : FnOk P w K mg base CX0 k f fd ps sp) (b : Binds K fd ps []) : FnR P w K mg base CX0 k f sp := by
  have r := ok.raw b .nil
  refine FnR.imp r fun vs H Q E hs => ?_
  rw [List.append_nil]
  exact hs
theorem rawX {k : Nat} {ps : List Str} {sp : Sp} (ok : FnOk P w K mg base (L2.CX P w) k f fd ps sp) (b : Binds K fd ps []) : FnR P w K mg base (L2.CX P w) k f sp := by
  have r := ok.raw b .nil
  refine FnR.imp r fun vs H Q E hs => ?_
  rw [List.append_nil]
  exact hs
end
section
theorem all_mk {l : PySem.W.OpenLaw} {w : World} {K : PySem.W.Frag} {h : Heap} {mg : Str → Option Value} {fa : Addr} (X : K.In h) (G : h.Ns mainGlobals mg) (hfa : mg "law" = some (.ref fa))
    {f_pen f_draw f_pick f_great f_integer f_choose f_cut f_lrowof f_lrow f_lplus f_lsign f_base f_thing f_thing_at f_thing_row f_joined f_thing_signs f_is_whole f_check_wholes f_chooses f_row_value f_trimmed f_row_sum f_row_times f_row_less f_sign_of f_is_reached f_last_short f_straight_guess f_first_between f_first_reached f_rising_signs f_slope_signs f_joined_signs f_row_signs f_row_of f_signs_of_less f_sinit f_slt f_sle f_sgt f_sge f_seq_ f_compares f_law C_Size TI_sinit T0_sinit : Addr} {od_pen an_pen od_draw an_draw od_pick an_pick od_great an_great od_integer an_integer od_choose an_choose od_cut an_cut od_lrowof an_lrowof od_lrow an_lrow od_lplus an_lplus od_lsign an_lsign od_base an_base od_thing an_thing od_thing_at an_thing_at od_thing_row an_thing_row od_joined an_joined od_thing_signs an_thing_signs od_is_whole an_is_whole od_check_wholes an_check_wholes od_chooses an_chooses od_row_value an_row_value od_trimmed an_trimmed od_row_sum an_row_sum od_row_times an_row_times od_row_less an_row_less od_sign_of an_sign_of od_is_reached an_is_reached od_last_short an_last_short od_straight_guess an_straight_guess od_first_between an_first_between od_first_reached an_first_reached od_rising_signs an_rising_signs od_slope_signs an_slope_signs od_joined_signs an_joined_signs od_row_signs an_row_signs od_row_of an_row_of od_signs_of_less an_signs_of_less od_sinit an_sinit od_slt an_slt od_sle an_sle od_sgt an_sgt od_sge an_sge od_seq_ an_seq_ od_compares an_compares od_law an_law odTI_sinit odT0_sinit : Option Addr} {sl_pen sl_draw sl_pick sl_great sl_integer sl_choose sl_cut sl_lrowof sl_lrow sl_lplus sl_lsign sl_base sl_thing sl_thing_at sl_thing_row sl_joined sl_thing_signs sl_is_whole sl_check_wholes sl_chooses sl_row_value sl_trimmed sl_row_sum sl_row_times sl_row_less sl_sign_of sl_is_reached sl_last_short sl_straight_guess sl_first_between sl_first_reached sl_rising_signs sl_slope_signs sl_joined_signs sl_row_signs sl_row_of sl_signs_of_less sl_sinit sl_slt sl_sle sl_sgt sl_sge sl_seq_ sl_compares sl_law slTI_sinit slT0_sinit : Array (Option Value)}
    {oc_pen kV_pen dc_pen pm_pen cd_pen ct_pen oc_draw kV_draw dc_draw pm_draw cd_draw ct_draw oc_pick kV_pick dc_pick pm_pick cd_pick ct_pick oc_great kV_great dc_great pm_great cd_great ct_great oc_integer kV_integer dc_integer pm_integer cd_integer ct_integer oc_choose kV_choose dc_choose pm_choose cd_choose ct_choose oc_cut kV_cut dc_cut pm_cut cd_cut ct_cut oc_lrowof kV_lrowof dc_lrowof pm_lrowof cd_lrowof ct_lrowof oc_lrow kV_lrow dc_lrow pm_lrow cd_lrow ct_lrow oc_lplus kV_lplus dc_lplus pm_lplus cd_lplus ct_lplus oc_lsign kV_lsign dc_lsign pm_lsign cd_lsign ct_lsign oc_base kV_base dc_base pm_base cd_base ct_base oc_thing kV_thing dc_thing pm_thing cd_thing ct_thing oc_thing_at kV_thing_at dc_thing_at pm_thing_at cd_thing_at ct_thing_at oc_thing_row kV_thing_row dc_thing_row pm_thing_row cd_thing_row ct_thing_row oc_joined kV_joined dc_joined pm_joined cd_joined ct_joined oc_thing_signs kV_thing_signs dc_thing_signs pm_thing_signs cd_thing_signs ct_thing_signs oc_is_whole kV_is_whole dc_is_whole pm_is_whole cd_is_whole ct_is_whole oc_check_wholes kV_check_wholes dc_check_wholes pm_check_wholes cd_check_wholes ct_check_wholes oc_chooses kV_chooses dc_chooses pm_chooses cd_chooses ct_chooses oc_row_value kV_row_value dc_row_value pm_row_value cd_row_value ct_row_value oc_trimmed kV_trimmed dc_trimmed pm_trimmed cd_trimmed ct_trimmed oc_row_sum kV_row_sum dc_row_sum pm_row_sum cd_row_sum ct_row_sum oc_row_times kV_row_times dc_row_times pm_row_times cd_row_times ct_row_times oc_row_less kV_row_less dc_row_less pm_row_less cd_row_less ct_row_less oc_sign_of kV_sign_of dc_sign_of pm_sign_of cd_sign_of ct_sign_of oc_is_reached kV_is_reached dc_is_reached pm_is_reached cd_is_reached ct_is_reached oc_last_short kV_last_short dc_last_short pm_last_short cd_last_short ct_last_short oc_straight_guess kV_straight_guess dc_straight_guess pm_straight_guess cd_straight_guess ct_straight_guess oc_first_between kV_first_between dc_first_between pm_first_between cd_first_between ct_first_between oc_first_reached kV_first_reached dc_first_reached pm_first_reached cd_first_reached ct_first_reached oc_rising_signs kV_rising_signs dc_rising_signs pm_rising_signs cd_rising_signs ct_rising_signs oc_slope_signs kV_slope_signs dc_slope_signs pm_slope_signs cd_slope_signs ct_slope_signs oc_joined_signs kV_joined_signs dc_joined_signs pm_joined_signs cd_joined_signs ct_joined_signs oc_row_signs kV_row_signs dc_row_signs pm_row_signs cd_row_signs ct_row_signs oc_row_of kV_row_of dc_row_of pm_row_of cd_row_of ct_row_of oc_signs_of_less kV_signs_of_less dc_signs_of_less pm_signs_of_less cd_signs_of_less ct_signs_of_less oc_sinit kV_sinit dc_sinit pm_sinit cd_sinit ct_sinit oc_slt kV_slt dc_slt pm_slt cd_slt ct_slt oc_sle kV_sle dc_sle pm_sle cd_sle ct_sle oc_sgt kV_sgt dc_sgt pm_sgt cd_sgt ct_sgt oc_sge kV_sge dc_sge pm_sge cd_sge ct_sge oc_seq_ kV_seq_ dc_seq_ pm_seq_ cd_seq_ ct_seq_ oc_compares kV_compares dc_compares pm_compares cd_compares ct_compares oc_law kV_law dc_law pm_law cd_law ct_law ocTI_sinit : Value} {nTI_sinit nT0_sinit : Nat}
    (aC_Size : PySem.W.nsIn K mainGlobals "Size" = some (some (.ref C_Size)))
    (pg_Size : PySem.W.plainGet K C_Size Str.empty = true)
    (hd_Size : PySem.W.hasDictIn K C_Size = true)
    (po_Size : PySem.W.plainOver K C_Size = true)
    (sa_Size : PySem.W.findIn K (.ref C_Size) "__setattr__" = some (some (.builtin "object.__setattr__")))
    (mk_Size : PySem.W.makesIn K C_Size = true)
    (kC_Size : PySem.W.keepIn K (.ref C_Size) = true)
    (nR_Size_row : PySem.W.findIn K (.ref C_Size) "row" = some none)
    (ha_Size : PySem.W.findIn K (.ref C_Size) "__class__" = some (some (.builtin "object.__class__")))
    (hn_Size : PySem.W.specialIn K (.builtin "object.__class__") "__get__" = some (some (.builtin "getset_descriptor.__get__")))
    (htk_Size : PySem.W.takesIn K (.builtin "object.__class__") = some true)
    (hm_Size : PySem.W.mroIn K C_Size (.type "object") = some true)
    (sf_Size : PySem.W.selfFirst K C_Size = true)
    (ty_Size : PySem.W.typeIn K (.ref C_Size) = some (.type "type"))
    (si_Size : PySem.W.subIn K (.type "int") (.ref C_Size) = some false)
    (st_Size : PySem.W.subIn K (.type "tuple") (.ref C_Size) = some false)
    (is_Size : PySem.W.subIn K (.ref C_Size) (.type "int") = some false)
    (a_pen : PySem.W.nsIn K mainGlobals "_law_pen" = some (some (.ref f_pen)))
    (l_pen : K.lookup f_pen = some ⟨oc_pen, od_pen, .func (PySem.W.fnOf "_law_pen" "_law_pen" (defArgs s_pen) (defBody s_pen) (defScope s_pen) .none kV_pen dc_pen pm_pen an_pen cd_pen ct_pen), sl_pen⟩)
    (c_pen : PySem.W.codeIn K cd_pen "_law_pen" = true)
    (k_pen : PySem.W.keepIn K (.ref f_pen) = true)
    (a_draw : PySem.W.nsIn K mainGlobals "_law_draw" = some (some (.ref f_draw)))
    (l_draw : K.lookup f_draw = some ⟨oc_draw, od_draw, .func (PySem.W.fnOf "_law_draw" "_law_draw" (defArgs s_draw) (defBody s_draw) (defScope s_draw) .none kV_draw dc_draw pm_draw an_draw cd_draw ct_draw), sl_draw⟩)
    (c_draw : PySem.W.codeIn K cd_draw "_law_draw" = true)
    (k_draw : PySem.W.keepIn K (.ref f_draw) = true)
    (a_pick : PySem.W.nsIn K mainGlobals "_law_pick" = some (some (.ref f_pick)))
    (l_pick : K.lookup f_pick = some ⟨oc_pick, od_pick, .func (PySem.W.fnOf "_law_pick" "_law_pick" (defArgs s_pick) (defBody s_pick) (defScope s_pick) .none kV_pick dc_pick pm_pick an_pick cd_pick ct_pick), sl_pick⟩)
    (c_pick : PySem.W.codeIn K cd_pick "_law_pick" = true)
    (k_pick : PySem.W.keepIn K (.ref f_pick) = true)
    (a_great : PySem.W.nsIn K mainGlobals "_law_great" = some (some (.ref f_great)))
    (l_great : K.lookup f_great = some ⟨oc_great, od_great, .func (PySem.W.fnOf "_law_great" "_law_great" (defArgs s_great) (defBody s_great) (defScope s_great) .none kV_great dc_great pm_great an_great cd_great ct_great), sl_great⟩)
    (c_great : PySem.W.codeIn K cd_great "_law_great" = true)
    (k_great : PySem.W.keepIn K (.ref f_great) = true)
    (a_integer : PySem.W.nsIn K mainGlobals "_law_integer" = some (some (.ref f_integer)))
    (l_integer : K.lookup f_integer = some ⟨oc_integer, od_integer, .func (PySem.W.fnOf "_law_integer" "_law_integer" (defArgs s_integer) (defBody s_integer) (defScope s_integer) .none kV_integer dc_integer pm_integer an_integer cd_integer ct_integer), sl_integer⟩)
    (c_integer : PySem.W.codeIn K cd_integer "_law_integer" = true)
    (k_integer : PySem.W.keepIn K (.ref f_integer) = true)
    (a_choose : PySem.W.nsIn K mainGlobals "_law_choose" = some (some (.ref f_choose)))
    (l_choose : K.lookup f_choose = some ⟨oc_choose, od_choose, .func (PySem.W.fnOf "_law_choose" "_law_choose" (defArgs s_choose) (defBody s_choose) (defScope s_choose) .none kV_choose dc_choose pm_choose an_choose cd_choose ct_choose), sl_choose⟩)
    (c_choose : PySem.W.codeIn K cd_choose "_law_choose" = true)
    (k_choose : PySem.W.keepIn K (.ref f_choose) = true)
    (a_cut : PySem.W.nsIn K mainGlobals "_law_cut" = some (some (.ref f_cut)))
    (l_cut : K.lookup f_cut = some ⟨oc_cut, od_cut, .func (PySem.W.fnOf "_law_cut" "_law_cut" (defArgs s_cut) (defBody s_cut) (defScope s_cut) .none kV_cut dc_cut pm_cut an_cut cd_cut ct_cut), sl_cut⟩)
    (c_cut : PySem.W.codeIn K cd_cut "_law_cut" = true)
    (k_cut : PySem.W.keepIn K (.ref f_cut) = true)
    (a_lrowof : PySem.W.nsIn K mainGlobals "_law_row_of" = some (some (.ref f_lrowof)))
    (l_lrowof : K.lookup f_lrowof = some ⟨oc_lrowof, od_lrowof, .func (PySem.W.fnOf "_law_row_of" "_law_row_of" (defArgs s_lrowof) (defBody s_lrowof) (defScope s_lrowof) .none kV_lrowof dc_lrowof pm_lrowof an_lrowof cd_lrowof ct_lrowof), sl_lrowof⟩)
    (c_lrowof : PySem.W.codeIn K cd_lrowof "_law_row_of" = true)
    (k_lrowof : PySem.W.keepIn K (.ref f_lrowof) = true)
    (a_lrow : PySem.W.nsIn K mainGlobals "_law_row" = some (some (.ref f_lrow)))
    (l_lrow : K.lookup f_lrow = some ⟨oc_lrow, od_lrow, .func (PySem.W.fnOf "_law_row" "_law_row" (defArgs s_lrow) (defBody s_lrow) (defScope s_lrow) .none kV_lrow dc_lrow pm_lrow an_lrow cd_lrow ct_lrow), sl_lrow⟩)
    (c_lrow : PySem.W.codeIn K cd_lrow "_law_row" = true)
    (k_lrow : PySem.W.keepIn K (.ref f_lrow) = true)
    (a_lplus : PySem.W.nsIn K mainGlobals "_law_plus" = some (some (.ref f_lplus)))
    (l_lplus : K.lookup f_lplus = some ⟨oc_lplus, od_lplus, .func (PySem.W.fnOf "_law_plus" "_law_plus" (defArgs s_lplus) (defBody s_lplus) (defScope s_lplus) .none kV_lplus dc_lplus pm_lplus an_lplus cd_lplus ct_lplus), sl_lplus⟩)
    (c_lplus : PySem.W.codeIn K cd_lplus "_law_plus" = true)
    (k_lplus : PySem.W.keepIn K (.ref f_lplus) = true)
    (a_lsign : PySem.W.nsIn K mainGlobals "_law_sign" = some (some (.ref f_lsign)))
    (l_lsign : K.lookup f_lsign = some ⟨oc_lsign, od_lsign, .func (PySem.W.fnOf "_law_sign" "_law_sign" (defArgs s_lsign) (defBody s_lsign) (defScope s_lsign) .none kV_lsign dc_lsign pm_lsign an_lsign cd_lsign ct_lsign), sl_lsign⟩)
    (c_lsign : PySem.W.codeIn K cd_lsign "_law_sign" = true)
    (k_lsign : PySem.W.keepIn K (.ref f_lsign) = true)
    (a_base : PySem.W.nsIn K mainGlobals "_law_base" = some (some (.ref f_base)))
    (l_base : K.lookup f_base = some ⟨oc_base, od_base, .func (PySem.W.fnOf "_law_base" "_law_base" (defArgs s_base) (defBody s_base) (defScope s_base) .none kV_base dc_base pm_base an_base cd_base ct_base), sl_base⟩)
    (c_base : PySem.W.codeIn K cd_base "_law_base" = true)
    (k_base : PySem.W.keepIn K (.ref f_base) = true)
    (a_thing : PySem.W.nsIn K mainGlobals "_law_thing" = some (some (.ref f_thing)))
    (l_thing : K.lookup f_thing = some ⟨oc_thing, od_thing, .func (PySem.W.fnOf "_law_thing" "_law_thing" (defArgs s_thing) (defBody s_thing) (defScope s_thing) .none kV_thing dc_thing pm_thing an_thing cd_thing ct_thing), sl_thing⟩)
    (c_thing : PySem.W.codeIn K cd_thing "_law_thing" = true)
    (k_thing : PySem.W.keepIn K (.ref f_thing) = true)
    (a_thing_at : PySem.W.nsIn K mainGlobals "_law_thing_at" = some (some (.ref f_thing_at)))
    (l_thing_at : K.lookup f_thing_at = some ⟨oc_thing_at, od_thing_at, .func (PySem.W.fnOf "_law_thing_at" "_law_thing_at" (defArgs s_thing_at) (defBody s_thing_at) (defScope s_thing_at) .none kV_thing_at dc_thing_at pm_thing_at an_thing_at cd_thing_at ct_thing_at), sl_thing_at⟩)
    (c_thing_at : PySem.W.codeIn K cd_thing_at "_law_thing_at" = true)
    (k_thing_at : PySem.W.keepIn K (.ref f_thing_at) = true)
    (a_thing_row : PySem.W.nsIn K mainGlobals "_law_thing_row" = some (some (.ref f_thing_row)))
    (l_thing_row : K.lookup f_thing_row = some ⟨oc_thing_row, od_thing_row, .func (PySem.W.fnOf "_law_thing_row" "_law_thing_row" (defArgs s_thing_row) (defBody s_thing_row) (defScope s_thing_row) .none kV_thing_row dc_thing_row pm_thing_row an_thing_row cd_thing_row ct_thing_row), sl_thing_row⟩)
    (c_thing_row : PySem.W.codeIn K cd_thing_row "_law_thing_row" = true)
    (k_thing_row : PySem.W.keepIn K (.ref f_thing_row) = true)
    (a_joined : PySem.W.nsIn K mainGlobals "_law_joined" = some (some (.ref f_joined)))
    (l_joined : K.lookup f_joined = some ⟨oc_joined, od_joined, .func (PySem.W.fnOf "_law_joined" "_law_joined" (defArgs s_joined) (defBody s_joined) (defScope s_joined) .none kV_joined dc_joined pm_joined an_joined cd_joined ct_joined), sl_joined⟩)
    (c_joined : PySem.W.codeIn K cd_joined "_law_joined" = true)
    (k_joined : PySem.W.keepIn K (.ref f_joined) = true)
    (a_thing_signs : PySem.W.nsIn K mainGlobals "_law_thing_signs" = some (some (.ref f_thing_signs)))
    (l_thing_signs : K.lookup f_thing_signs = some ⟨oc_thing_signs, od_thing_signs, .func (PySem.W.fnOf "_law_thing_signs" "_law_thing_signs" (defArgs s_thing_signs) (defBody s_thing_signs) (defScope s_thing_signs) .none kV_thing_signs dc_thing_signs pm_thing_signs an_thing_signs cd_thing_signs ct_thing_signs), sl_thing_signs⟩)
    (c_thing_signs : PySem.W.codeIn K cd_thing_signs "_law_thing_signs" = true)
    (k_thing_signs : PySem.W.keepIn K (.ref f_thing_signs) = true)
    (a_is_whole : PySem.W.nsIn K mainGlobals "is_whole" = some (some (.ref f_is_whole)))
    (l_is_whole : K.lookup f_is_whole = some ⟨oc_is_whole, od_is_whole, .func (PySem.W.fnOf "is_whole" "is_whole" (defArgs s_is_whole) (defBody s_is_whole) (defScope s_is_whole) .none kV_is_whole dc_is_whole pm_is_whole an_is_whole cd_is_whole ct_is_whole), sl_is_whole⟩)
    (c_is_whole : PySem.W.codeIn K cd_is_whole "is_whole" = true)
    (k_is_whole : PySem.W.keepIn K (.ref f_is_whole) = true)
    (a_check_wholes : PySem.W.nsIn K mainGlobals "check_wholes" = some (some (.ref f_check_wholes)))
    (l_check_wholes : K.lookup f_check_wholes = some ⟨oc_check_wholes, od_check_wholes, .func (PySem.W.fnOf "check_wholes" "check_wholes" (defArgs s_check_wholes) (defBody s_check_wholes) (defScope s_check_wholes) .none kV_check_wholes dc_check_wholes pm_check_wholes an_check_wholes cd_check_wholes ct_check_wholes), sl_check_wholes⟩)
    (c_check_wholes : PySem.W.codeIn K cd_check_wholes "check_wholes" = true)
    (k_check_wholes : PySem.W.keepIn K (.ref f_check_wholes) = true)
    (a_chooses : PySem.W.nsIn K mainGlobals "chooses" = some (some (.ref f_chooses)))
    (l_chooses : K.lookup f_chooses = some ⟨oc_chooses, od_chooses, .func (PySem.W.fnOf "chooses" "chooses" (defArgs s_chooses) (defBody s_chooses) (defScope s_chooses) .none kV_chooses dc_chooses pm_chooses an_chooses cd_chooses ct_chooses), sl_chooses⟩)
    (c_chooses : PySem.W.codeIn K cd_chooses "chooses" = true)
    (k_chooses : PySem.W.keepIn K (.ref f_chooses) = true)
    (a_row_value : PySem.W.nsIn K mainGlobals "row_value" = some (some (.ref f_row_value)))
    (l_row_value : K.lookup f_row_value = some ⟨oc_row_value, od_row_value, .func (PySem.W.fnOf "row_value" "row_value" (defArgs s_row_value) (defBody s_row_value) (defScope s_row_value) .none kV_row_value dc_row_value pm_row_value an_row_value cd_row_value ct_row_value), sl_row_value⟩)
    (c_row_value : PySem.W.codeIn K cd_row_value "row_value" = true)
    (k_row_value : PySem.W.keepIn K (.ref f_row_value) = true)
    (a_trimmed : PySem.W.nsIn K mainGlobals "trimmed" = some (some (.ref f_trimmed)))
    (l_trimmed : K.lookup f_trimmed = some ⟨oc_trimmed, od_trimmed, .func (PySem.W.fnOf "trimmed" "trimmed" (defArgs s_trimmed) (defBody s_trimmed) (defScope s_trimmed) .none kV_trimmed dc_trimmed pm_trimmed an_trimmed cd_trimmed ct_trimmed), sl_trimmed⟩)
    (c_trimmed : PySem.W.codeIn K cd_trimmed "trimmed" = true)
    (k_trimmed : PySem.W.keepIn K (.ref f_trimmed) = true)
    (a_row_sum : PySem.W.nsIn K mainGlobals "row_sum" = some (some (.ref f_row_sum)))
    (l_row_sum : K.lookup f_row_sum = some ⟨oc_row_sum, od_row_sum, .func (PySem.W.fnOf "row_sum" "row_sum" (defArgs s_row_sum) (defBody s_row_sum) (defScope s_row_sum) .none kV_row_sum dc_row_sum pm_row_sum an_row_sum cd_row_sum ct_row_sum), sl_row_sum⟩)
    (c_row_sum : PySem.W.codeIn K cd_row_sum "row_sum" = true)
    (k_row_sum : PySem.W.keepIn K (.ref f_row_sum) = true)
    (a_row_times : PySem.W.nsIn K mainGlobals "row_times" = some (some (.ref f_row_times)))
    (l_row_times : K.lookup f_row_times = some ⟨oc_row_times, od_row_times, .func (PySem.W.fnOf "row_times" "row_times" (defArgs s_row_times) (defBody s_row_times) (defScope s_row_times) .none kV_row_times dc_row_times pm_row_times an_row_times cd_row_times ct_row_times), sl_row_times⟩)
    (c_row_times : PySem.W.codeIn K cd_row_times "row_times" = true)
    (k_row_times : PySem.W.keepIn K (.ref f_row_times) = true)
    (a_row_less : PySem.W.nsIn K mainGlobals "row_less" = some (some (.ref f_row_less)))
    (l_row_less : K.lookup f_row_less = some ⟨oc_row_less, od_row_less, .func (PySem.W.fnOf "row_less" "row_less" (defArgs s_row_less) (defBody s_row_less) (defScope s_row_less) .none kV_row_less dc_row_less pm_row_less an_row_less cd_row_less ct_row_less), sl_row_less⟩)
    (c_row_less : PySem.W.codeIn K cd_row_less "row_less" = true)
    (k_row_less : PySem.W.keepIn K (.ref f_row_less) = true)
    (a_sign_of : PySem.W.nsIn K mainGlobals "sign_of" = some (some (.ref f_sign_of)))
    (l_sign_of : K.lookup f_sign_of = some ⟨oc_sign_of, od_sign_of, .func (PySem.W.fnOf "sign_of" "sign_of" (defArgs s_sign_of) (defBody s_sign_of) (defScope s_sign_of) .none kV_sign_of dc_sign_of pm_sign_of an_sign_of cd_sign_of ct_sign_of), sl_sign_of⟩)
    (c_sign_of : PySem.W.codeIn K cd_sign_of "sign_of" = true)
    (k_sign_of : PySem.W.keepIn K (.ref f_sign_of) = true)
    (a_is_reached : PySem.W.nsIn K mainGlobals "is_reached" = some (some (.ref f_is_reached)))
    (l_is_reached : K.lookup f_is_reached = some ⟨oc_is_reached, od_is_reached, .func (PySem.W.fnOf "is_reached" "is_reached" (defArgs s_is_reached) (defBody s_is_reached) (defScope s_is_reached) .none kV_is_reached dc_is_reached pm_is_reached an_is_reached cd_is_reached ct_is_reached), sl_is_reached⟩)
    (c_is_reached : PySem.W.codeIn K cd_is_reached "is_reached" = true)
    (k_is_reached : PySem.W.keepIn K (.ref f_is_reached) = true)
    (a_last_short : PySem.W.nsIn K mainGlobals "last_short" = some (some (.ref f_last_short)))
    (l_last_short : K.lookup f_last_short = some ⟨oc_last_short, od_last_short, .func (PySem.W.fnOf "last_short" "last_short" (defArgs s_last_short) (defBody s_last_short) (defScope s_last_short) .none kV_last_short dc_last_short pm_last_short an_last_short cd_last_short ct_last_short), sl_last_short⟩)
    (c_last_short : PySem.W.codeIn K cd_last_short "last_short" = true)
    (k_last_short : PySem.W.keepIn K (.ref f_last_short) = true)
    (a_straight_guess : PySem.W.nsIn K mainGlobals "straight_guess" = some (some (.ref f_straight_guess)))
    (l_straight_guess : K.lookup f_straight_guess = some ⟨oc_straight_guess, od_straight_guess, .func (PySem.W.fnOf "straight_guess" "straight_guess" (defArgs s_straight_guess) (defBody s_straight_guess) (defScope s_straight_guess) .none kV_straight_guess dc_straight_guess pm_straight_guess an_straight_guess cd_straight_guess ct_straight_guess), sl_straight_guess⟩)
    (c_straight_guess : PySem.W.codeIn K cd_straight_guess "straight_guess" = true)
    (k_straight_guess : PySem.W.keepIn K (.ref f_straight_guess) = true)
    (a_first_between : PySem.W.nsIn K mainGlobals "first_between" = some (some (.ref f_first_between)))
    (l_first_between : K.lookup f_first_between = some ⟨oc_first_between, od_first_between, .func (PySem.W.fnOf "first_between" "first_between" (defArgs s_first_between) (defBody s_first_between) (defScope s_first_between) .none kV_first_between dc_first_between pm_first_between an_first_between cd_first_between ct_first_between), sl_first_between⟩)
    (c_first_between : PySem.W.codeIn K cd_first_between "first_between" = true)
    (k_first_between : PySem.W.keepIn K (.ref f_first_between) = true)
    (a_first_reached : PySem.W.nsIn K mainGlobals "first_reached" = some (some (.ref f_first_reached)))
    (l_first_reached : K.lookup f_first_reached = some ⟨oc_first_reached, od_first_reached, .func (PySem.W.fnOf "first_reached" "first_reached" (defArgs s_first_reached) (defBody s_first_reached) (defScope s_first_reached) .none kV_first_reached dc_first_reached pm_first_reached an_first_reached cd_first_reached ct_first_reached), sl_first_reached⟩)
    (c_first_reached : PySem.W.codeIn K cd_first_reached "first_reached" = true)
    (k_first_reached : PySem.W.keepIn K (.ref f_first_reached) = true)
    (a_rising_signs : PySem.W.nsIn K mainGlobals "rising_signs" = some (some (.ref f_rising_signs)))
    (l_rising_signs : K.lookup f_rising_signs = some ⟨oc_rising_signs, od_rising_signs, .func (PySem.W.fnOf "rising_signs" "rising_signs" (defArgs s_rising_signs) (defBody s_rising_signs) (defScope s_rising_signs) .none kV_rising_signs dc_rising_signs pm_rising_signs an_rising_signs cd_rising_signs ct_rising_signs), sl_rising_signs⟩)
    (c_rising_signs : PySem.W.codeIn K cd_rising_signs "rising_signs" = true)
    (k_rising_signs : PySem.W.keepIn K (.ref f_rising_signs) = true)
    (a_slope_signs : PySem.W.nsIn K mainGlobals "slope_signs" = some (some (.ref f_slope_signs)))
    (l_slope_signs : K.lookup f_slope_signs = some ⟨oc_slope_signs, od_slope_signs, .func (PySem.W.fnOf "slope_signs" "slope_signs" (defArgs s_slope_signs) (defBody s_slope_signs) (defScope s_slope_signs) .none kV_slope_signs dc_slope_signs pm_slope_signs an_slope_signs cd_slope_signs ct_slope_signs), sl_slope_signs⟩)
    (c_slope_signs : PySem.W.codeIn K cd_slope_signs "slope_signs" = true)
    (k_slope_signs : PySem.W.keepIn K (.ref f_slope_signs) = true)
    (a_joined_signs : PySem.W.nsIn K mainGlobals "joined_signs" = some (some (.ref f_joined_signs)))
    (l_joined_signs : K.lookup f_joined_signs = some ⟨oc_joined_signs, od_joined_signs, .func (PySem.W.fnOf "joined_signs" "joined_signs" (defArgs s_joined_signs) (defBody s_joined_signs) (defScope s_joined_signs) .none kV_joined_signs dc_joined_signs pm_joined_signs an_joined_signs cd_joined_signs ct_joined_signs), sl_joined_signs⟩)
    (c_joined_signs : PySem.W.codeIn K cd_joined_signs "joined_signs" = true)
    (k_joined_signs : PySem.W.keepIn K (.ref f_joined_signs) = true)
    (a_row_signs : PySem.W.nsIn K mainGlobals "row_signs" = some (some (.ref f_row_signs)))
    (l_row_signs : K.lookup f_row_signs = some ⟨oc_row_signs, od_row_signs, .func (PySem.W.fnOf "row_signs" "row_signs" (defArgs s_row_signs) (defBody s_row_signs) (defScope s_row_signs) .none kV_row_signs dc_row_signs pm_row_signs an_row_signs cd_row_signs ct_row_signs), sl_row_signs⟩)
    (c_row_signs : PySem.W.codeIn K cd_row_signs "row_signs" = true)
    (k_row_signs : PySem.W.keepIn K (.ref f_row_signs) = true)
    (a_row_of : PySem.W.nsIn K mainGlobals "row_of" = some (some (.ref f_row_of)))
    (l_row_of : K.lookup f_row_of = some ⟨oc_row_of, od_row_of, .func (PySem.W.fnOf "row_of" "row_of" (defArgs s_row_of) (defBody s_row_of) (defScope s_row_of) .none kV_row_of dc_row_of pm_row_of an_row_of cd_row_of ct_row_of), sl_row_of⟩)
    (c_row_of : PySem.W.codeIn K cd_row_of "row_of" = true)
    (k_row_of : PySem.W.keepIn K (.ref f_row_of) = true)
    (a_signs_of_less : PySem.W.nsIn K mainGlobals "signs_of_less" = some (some (.ref f_signs_of_less)))
    (l_signs_of_less : K.lookup f_signs_of_less = some ⟨oc_signs_of_less, od_signs_of_less, .func (PySem.W.fnOf "signs_of_less" "signs_of_less" (defArgs s_signs_of_less) (defBody s_signs_of_less) (defScope s_signs_of_less) .none kV_signs_of_less dc_signs_of_less pm_signs_of_less an_signs_of_less cd_signs_of_less ct_signs_of_less), sl_signs_of_less⟩)
    (c_signs_of_less : PySem.W.codeIn K cd_signs_of_less "signs_of_less" = true)
    (k_signs_of_less : PySem.W.keepIn K (.ref f_signs_of_less) = true)
    (a_sinit : PySem.W.findIn K (.ref C_Size) "__init__" = some (some (.ref f_sinit)))
    (i_sinit : PySem.W.isFn K (.ref f_sinit) = true)
    (l_sinit : K.lookup f_sinit = some ⟨oc_sinit, od_sinit, .func (PySem.W.fnOf "__init__" "Size.__init__" (defArgs s_sinit) (defBody s_sinit) (defScope s_sinit) (.ref TI_sinit) kV_sinit dc_sinit pm_sinit an_sinit cd_sinit ct_sinit), sl_sinit⟩)
    (c_sinit : PySem.W.codeIn K cd_sinit "Size.__init__" = true)
    (k_sinit : PySem.W.keepIn K (.ref f_sinit) = true)
    (lTI_sinit : K.lookup TI_sinit = some ⟨ocTI_sinit, odTI_sinit, .seq #[.ref T0_sinit] nTI_sinit, slTI_sinit⟩)
    (lT0_sinit : K.lookup T0_sinit = some ⟨.type "tuple", odT0_sinit, .seq #[] nT0_sinit, slT0_sinit⟩)
    (a_slt : PySem.W.findIn K (.ref C_Size) "__lt__" = some (some (.ref f_slt)))
    (i_slt : PySem.W.isFn K (.ref f_slt) = true)
    (l_slt : K.lookup f_slt = some ⟨oc_slt, od_slt, .func (PySem.W.fnOf "__lt__" "Size.__lt__" (defArgs s_slt) (defBody s_slt) (defScope s_slt) .none kV_slt dc_slt pm_slt an_slt cd_slt ct_slt), sl_slt⟩)
    (c_slt : PySem.W.codeIn K cd_slt "Size.__lt__" = true)
    (k_slt : PySem.W.keepIn K (.ref f_slt) = true)
    (a_sle : PySem.W.findIn K (.ref C_Size) "__le__" = some (some (.ref f_sle)))
    (i_sle : PySem.W.isFn K (.ref f_sle) = true)
    (l_sle : K.lookup f_sle = some ⟨oc_sle, od_sle, .func (PySem.W.fnOf "__le__" "Size.__le__" (defArgs s_sle) (defBody s_sle) (defScope s_sle) .none kV_sle dc_sle pm_sle an_sle cd_sle ct_sle), sl_sle⟩)
    (c_sle : PySem.W.codeIn K cd_sle "Size.__le__" = true)
    (k_sle : PySem.W.keepIn K (.ref f_sle) = true)
    (a_sgt : PySem.W.findIn K (.ref C_Size) "__gt__" = some (some (.ref f_sgt)))
    (i_sgt : PySem.W.isFn K (.ref f_sgt) = true)
    (l_sgt : K.lookup f_sgt = some ⟨oc_sgt, od_sgt, .func (PySem.W.fnOf "__gt__" "Size.__gt__" (defArgs s_sgt) (defBody s_sgt) (defScope s_sgt) .none kV_sgt dc_sgt pm_sgt an_sgt cd_sgt ct_sgt), sl_sgt⟩)
    (c_sgt : PySem.W.codeIn K cd_sgt "Size.__gt__" = true)
    (k_sgt : PySem.W.keepIn K (.ref f_sgt) = true)
    (a_sge : PySem.W.findIn K (.ref C_Size) "__ge__" = some (some (.ref f_sge)))
    (i_sge : PySem.W.isFn K (.ref f_sge) = true)
    (l_sge : K.lookup f_sge = some ⟨oc_sge, od_sge, .func (PySem.W.fnOf "__ge__" "Size.__ge__" (defArgs s_sge) (defBody s_sge) (defScope s_sge) .none kV_sge dc_sge pm_sge an_sge cd_sge ct_sge), sl_sge⟩)
    (c_sge : PySem.W.codeIn K cd_sge "Size.__ge__" = true)
    (k_sge : PySem.W.keepIn K (.ref f_sge) = true)
    (a_seq_ : PySem.W.findIn K (.ref C_Size) "__eq__" = some (some (.ref f_seq_)))
    (i_seq_ : PySem.W.isFn K (.ref f_seq_) = true)
    (l_seq_ : K.lookup f_seq_ = some ⟨oc_seq_, od_seq_, .func (PySem.W.fnOf "__eq__" "Size.__eq__" (defArgs s_seq_) (defBody s_seq_) (defScope s_seq_) .none kV_seq_ dc_seq_ pm_seq_ an_seq_ cd_seq_ ct_seq_), sl_seq_⟩)
    (c_seq_ : PySem.W.codeIn K cd_seq_ "Size.__eq__" = true)
    (k_seq_ : PySem.W.keepIn K (.ref f_seq_) = true)
    (a_compares : PySem.W.nsIn K mainGlobals "_law_compares" = some (some (.ref f_compares)))
    (l_compares : K.lookup f_compares = some ⟨oc_compares, od_compares, .func (PySem.W.fnOf "_law_compares" "_law_compares" (defArgs s_compares) (defBody s_compares) (defScope s_compares) .none kV_compares dc_compares pm_compares an_compares cd_compares ct_compares), sl_compares⟩)
    (c_compares : PySem.W.codeIn K cd_compares "_law_compares" = true)
    (k_compares : PySem.W.keepIn K (.ref f_compares) = true)
    (a_law : PySem.W.nsIn K mainGlobals "law" = some (some (.ref f_law)))
    (l_law : K.lookup f_law = some ⟨oc_law, od_law, .func (PySem.W.fnOf "law" "law" (defArgs s_law) (defBody s_law) (defScope s_law) .none kV_law dc_law pm_law an_law cd_law ct_law), sl_law⟩)
    (c_law : PySem.W.codeIn K cd_law "law" = true)
    (k_law : PySem.W.keepIn K (.ref f_law) = true)
    (z_list : PySem.W.nsIn K mainGlobals "list" = some none)
    (z_len : PySem.W.nsIn K mainGlobals "len" = some none)
    (z_int : PySem.W.nsIn K mainGlobals "int" = some none)
    (z_abs : PySem.W.nsIn K mainGlobals "abs" = some none)
    (z_range : PySem.W.nsIn K mainGlobals "range" = some none)
    (z_tuple : PySem.W.nsIn K mainGlobals "tuple" = some none)
    (z_isinstance : PySem.W.nsIn K mainGlobals "isinstance" = some none)
    (z_bool : PySem.W.nsIn K mainGlobals "bool" = some none)
    (z_all : PySem.W.nsIn K mainGlobals "all" = some none)
    (z_sum : PySem.W.nsIn K mainGlobals "sum" = some none)
    (z_zip : PySem.W.nsIn K mainGlobals "zip" = some none)
    (z_min : PySem.W.nsIn K mainGlobals "min" = some none)
    (z_sorted : PySem.W.nsIn K mainGlobals "sorted" = some none)
    (z_any : PySem.W.nsIn K mainGlobals "any" = some none)
    (z_set : PySem.W.nsIn K mainGlobals "set" = some none)
    (z_max : PySem.W.nsIn K mainGlobals "max" = some none)
    (z_str : PySem.W.nsIn K mainGlobals "str" = some none)
    (z_enumerate : PySem.W.nsIn K mainGlobals "enumerate" = some none)
    (z_reversed : PySem.W.nsIn K mainGlobals "reversed" = some none)
    (z_dict : PySem.W.nsIn K mainGlobals "dict" = some none)
    : ∃ fd : FuncData, (∀ (s : Shared) (v : Value), BindsTo s fd ⟨[v], []⟩ [("_law_script", v)]) ∧ ∀ base : Heap, K.In base → base.Ns mainGlobals mg → FnOk l.prog w K mg base CX0 13 fa fd ["_law_script"] (spLawH K) := by
  have e := hfa.symm.trans (PySem.W.mg_of X G a_law)
  cases e
  have T : Blt mg := ⟨PySem.W.mg_none_of X G z_list, PySem.W.mg_none_of X G z_len, PySem.W.mg_none_of X G z_int, PySem.W.mg_none_of X G z_abs, PySem.W.mg_none_of X G z_range, PySem.W.mg_none_of X G z_tuple, PySem.W.mg_none_of X G z_isinstance, PySem.W.mg_none_of X G z_bool, PySem.W.mg_none_of X G z_all, PySem.W.mg_none_of X G z_sum, PySem.W.mg_none_of X G z_zip, PySem.W.mg_none_of X G z_min, PySem.W.mg_none_of X G z_sorted, PySem.W.mg_none_of X G z_any, PySem.W.mg_none_of X G z_set, PySem.W.mg_none_of X G z_max, PySem.W.mg_none_of X G z_str, PySem.W.mg_none_of X G z_enumerate, PySem.W.mg_none_of X G z_reversed, PySem.W.mg_none_of X G z_dict⟩
  have g_Size := PySem.W.mg_of X G aC_Size
  have cl_Size : Cls K C_Size := ⟨pg_Size, hd_Size, po_Size, sa_Size⟩
  have o_Size : OwnC K C_Size := ⟨cl_Size, ha_Size, hn_Size, htk_Size, hm_Size, by unfold PySem.W.kitOne; exact if_pos (by simp)⟩
  have no_Size : NoC K C_Size := by
    obtain ⟨cd, rest, hcd, _⟩ := EO.first_own sf_Size
    have one : ∀ T : String, PySem.W.subIn K (.type T) (.ref C_Size) = some false → PySem.W.kitOne K (.type T) (.ref C_Size) = some false := fun T hs => by
      unfold PySem.W.kitOne PySem.W.kitCls
      dsimp only
      rw [hcd, ty_Size, hs]
      have e : (Value.type T == Value.ref C_Size) = false := Bool.eq_false_iff.mpr fun q => nomatch beq_iff_eq.mp q
      rw [e, if_neg Bool.false_ne_true]
      simp
    exact ⟨one "int" si_Size, one "tuple" st_Size⟩
  have F_pen := fun_mk (st := s_pen) l_pen c_pen k_pen
  have b_pen := F_pen.binds (ps := ["_law_script"]) fun _ _ _ _ _ _ us hl => match us, hl with | [_], _ => rfl
  have F_draw := fun_mk (st := s_draw) l_draw c_draw k_draw
  have b_draw := F_draw.binds (ps := ["_law_pen_here", "_law_many"]) fun _ _ _ _ _ _ us hl => match us, hl with | [_, _], _ => rfl
  have F_pick := fun_mk (st := s_pick) l_pick c_pick k_pick
  have b_pick := F_pick.binds (ps := ["_law_pen_here", "_law_options"]) fun _ _ _ _ _ _ us hl => match us, hl with | [_, _], _ => rfl
  have F_great := fun_mk (st := s_great) l_great c_great k_great
  have b_great := F_great.binds (ps := ["_law_pen_here", "_law_many"]) fun _ _ _ _ _ _ us hl => match us, hl with | [_, _], _ => rfl
  have F_integer := fun_mk (st := s_integer) l_integer c_integer k_integer
  have b_integer := F_integer.binds (ps := ["_law_pen_here"]) fun _ _ _ _ _ _ us hl => match us, hl with | [_], _ => rfl
  have F_choose := fun_mk (st := s_choose) l_choose c_choose k_choose
  have b_choose := F_choose.binds (ps := ["_law_n", "_law_k"]) fun _ _ _ _ _ _ us hl => match us, hl with | [_, _], _ => rfl
  have F_cut := fun_mk (st := s_cut) l_cut c_cut k_cut
  have b_cut := F_cut.binds (ps := ["_law_row_here"]) fun _ _ _ _ _ _ us hl => match us, hl with | [_], _ => rfl
  have F_lrowof := fun_mk (st := s_lrowof) l_lrowof c_lrowof k_lrowof
  have b_lrowof := F_lrowof.binds (ps := ["_law_amounts"]) fun _ _ _ _ _ _ us hl => match us, hl with | [_], _ => rfl
  have F_lrow := fun_mk (st := s_lrow) l_lrow c_lrow k_lrow
  have b_lrow := F_lrow.binds (ps := ["_law_pen_here", "_law_most"]) fun _ _ _ _ _ _ us hl => match us, hl with | [_, _], _ => rfl
  have F_lplus := fun_mk (st := s_lplus) l_lplus c_lplus k_lplus
  have b_lplus := F_lplus.binds (ps := ["_law_one", "_law_two"]) fun _ _ _ _ _ _ us hl => match us, hl with | [_, _], _ => rfl
  have F_lsign := fun_mk (st := s_lsign) l_lsign c_lsign k_lsign
  have b_lsign := F_lsign.binds (ps := ["_law_amount"]) fun _ _ _ _ _ _ us hl => match us, hl with | [_], _ => rfl
  have F_base := fun_mk (st := s_base) l_base c_base k_base
  have b_base := F_base.binds (ps := ["_law_pen_here"]) fun _ _ _ _ _ _ us hl => match us, hl with | [_], _ => rfl
  have F_thing := fun_mk (st := s_thing) l_thing c_thing k_thing
  have b_thing := F_thing.binds (ps := ["_law_pen_here", "_law_base_here"]) fun _ _ _ _ _ _ us hl => match us, hl with | [_, _], _ => rfl
  have F_thing_at := fun_mk (st := s_thing_at) l_thing_at c_thing_at k_thing_at
  have b_thing_at := F_thing_at.binds (ps := ["_law_thing_here", "_law_n"]) fun _ _ _ _ _ _ us hl => match us, hl with | [_, _], _ => rfl
  have F_thing_row := fun_mk (st := s_thing_row) l_thing_row c_thing_row k_thing_row
  have b_thing_row := F_thing_row.binds (ps := ["_law_thing_here"]) fun _ _ _ _ _ _ us hl => match us, hl with | [_], _ => rfl
  have F_joined := fun_mk (st := s_joined) l_joined c_joined k_joined
  have b_joined := F_joined.binds (ps := ["_law_parts"]) fun _ _ _ _ _ _ us hl => match us, hl with | [_], _ => rfl
  have F_thing_signs := fun_mk (st := s_thing_signs) l_thing_signs c_thing_signs k_thing_signs
  have b_thing_signs := F_thing_signs.binds (ps := ["_law_thing_here", "_law_low", "_law_high"]) fun _ _ _ _ _ _ us hl => match us, hl with | [_, _, _], _ => rfl
  have F_is_whole := fun_mk (st := s_is_whole) l_is_whole c_is_whole k_is_whole
  have b_is_whole := F_is_whole.binds (ps := ["value"]) fun _ _ _ _ _ _ us hl => match us, hl with | [_], _ => rfl
  have F_check_wholes := fun_mk (st := s_check_wholes) l_check_wholes c_check_wholes k_check_wholes
  have b_check_wholes := F_check_wholes.binds (ps := ["values"]) fun _ _ _ _ _ _ us hl => match us, hl with | [_], _ => rfl
  have F_chooses := fun_mk (st := s_chooses) l_chooses c_chooses k_chooses
  have b_chooses := F_chooses.binds (ps := ["n", "many"]) fun _ _ _ _ _ _ us hl => match us, hl with | [_, _], _ => rfl
  have F_row_value := fun_mk (st := s_row_value) l_row_value c_row_value k_row_value
  have b_row_value := F_row_value.binds (ps := ["row", "n"]) fun _ _ _ _ _ _ us hl => match us, hl with | [_, _], _ => rfl
  have F_trimmed := fun_mk (st := s_trimmed) l_trimmed c_trimmed k_trimmed
  have b_trimmed := F_trimmed.binds (ps := ["row"]) fun _ _ _ _ _ _ us hl => match us, hl with | [_], _ => rfl
  have F_row_sum := fun_mk (st := s_row_sum) l_row_sum c_row_sum k_row_sum
  have b_row_sum := F_row_sum.binds (ps := ["row", "other"]) fun _ _ _ _ _ _ us hl => match us, hl with | [_, _], _ => rfl
  have F_row_times := fun_mk (st := s_row_times) l_row_times c_row_times k_row_times
  have b_row_times := F_row_times.binds (ps := ["row", "factor"]) fun _ _ _ _ _ _ us hl => match us, hl with | [_, _], _ => rfl
  have F_row_less := fun_mk (st := s_row_less) l_row_less c_row_less k_row_less
  have b_row_less := F_row_less.binds (ps := ["row", "other"]) fun _ _ _ _ _ _ us hl => match us, hl with | [_, _], _ => rfl
  have F_sign_of := fun_mk (st := s_sign_of) l_sign_of c_sign_of k_sign_of
  have b_sign_of := F_sign_of.binds (ps := ["value"]) fun _ _ _ _ _ _ us hl => match us, hl with | [_], _ => rfl
  have F_is_reached := fun_mk (st := s_is_reached) l_is_reached c_is_reached k_is_reached
  have b_is_reached := F_is_reached.binds (ps := ["row", "low", "high", "bits"]) fun _ _ _ _ _ _ us hl => match us, hl with | [_, _, _, _], _ => rfl
  have F_last_short := fun_mk (st := s_last_short) l_last_short c_last_short k_last_short
  have b_last_short := F_last_short.binds (ps := ["row", "low", "high"]) fun _ _ _ _ _ _ us hl => match us, hl with | [_, _, _], _ => rfl
  have F_straight_guess := fun_mk (st := s_straight_guess) l_straight_guess c_straight_guess k_straight_guess
  have b_straight_guess := F_straight_guess.binds (ps := ["row", "below", "above"]) fun _ _ _ _ _ _ us hl => match us, hl with | [_, _, _], _ => rfl
  have F_first_between := fun_mk (st := s_first_between) l_first_between c_first_between k_first_between
  have b_first_between := F_first_between.binds (ps := ["row", "below", "above"]) fun _ _ _ _ _ _ us hl => match us, hl with | [_, _, _], _ => rfl
  have F_first_reached := fun_mk (st := s_first_reached) l_first_reached c_first_reached k_first_reached
  have b_first_reached := F_first_reached.binds (ps := ["row", "low", "high"]) fun _ _ _ _ _ _ us hl => match us, hl with | [_, _, _], _ => rfl
  have F_rising_signs := fun_mk (st := s_rising_signs) l_rising_signs c_rising_signs k_rising_signs
  have b_rising_signs := F_rising_signs.binds (ps := ["row", "low", "high"]) fun _ _ _ _ _ _ us hl => match us, hl with | [_, _, _], _ => rfl
  have F_slope_signs := fun_mk (st := s_slope_signs) l_slope_signs c_slope_signs k_slope_signs
  have b_slope_signs := F_slope_signs.binds (ps := ["row", "low", "high", "slope"]) fun _ _ _ _ _ _ us hl => match us, hl with | [_, _, _, _], _ => rfl
  have F_joined_signs := fun_mk (st := s_joined_signs) l_joined_signs c_joined_signs k_joined_signs
  have b_joined_signs := F_joined_signs.binds (ps := ["triples"]) fun _ _ _ _ _ _ us hl => match us, hl with | [_], _ => rfl
  have F_row_signs := fun_mk (st := s_row_signs) l_row_signs c_row_signs k_row_signs
  have b_row_signs := F_row_signs.binds (ps := ["row", "start"]) fun _ _ _ _ _ _ us hl => match us, hl with | [_, _], _ => rfl
  have F_row_of := fun_mk (st := s_row_of) l_row_of c_row_of k_row_of
  have b_row_of := F_row_of.binds (ps := ["value"]) fun _ _ _ _ _ _ us hl => match us, hl with | [_], _ => rfl
  have F_signs_of_less := fun_mk (st := s_signs_of_less) l_signs_of_less c_signs_of_less k_signs_of_less
  have b_signs_of_less := F_signs_of_less.binds (ps := ["row", "other"]) fun _ _ _ _ _ _ us hl => match us, hl with | [_, _], _ => rfl
  have F_sinit : FunD K "__init__" "Size.__init__" (defArgs s_sinit) (defBody s_sinit) (defScope s_sinit) [.ref T0_sinit] [] f_sinit _ := ⟨⟨_, _, _, _, _, _, _, _, _, _, rfl, l_sinit, c_sinit, .inr ⟨(fun z => nomatch z), TI_sinit, _, [.ref T0_sinit], nTI_sinit, rfl, lTI_sinit, rfl, .cons rfl .nil⟩, .inl rfl⟩, k_sinit⟩
  obtain ⟨ds2_sinit, v2_sinit, b2_sinit⟩ := F_sinit.binds1 (ps := ["self", "row"]) 2 1 (fun z => nomatch z) rfl fun T kV doc pm an cdv ct us its hu hi => match us, its, hu, hi with | [_, _], [_], _, _ => ⟨_, rfl, rfl⟩
  obtain ⟨ds1_sinit, v1_sinit, b1_sinit⟩ := F_sinit.binds1 (ps := ["self", "row"]) 1 0 (fun z => nomatch z) rfl fun T kV doc pm an cdv ct us its hu hi => match us, its, hu, hi with | [_], [_], _, _ => ⟨_, rfl, rfl⟩
  have F_slt := fun_mk (st := s_slt) l_slt c_slt k_slt
  have b_slt := F_slt.binds (ps := ["self", "other"]) fun _ _ _ _ _ _ us hl => match us, hl with | [_, _], _ => rfl
  have F_sle := fun_mk (st := s_sle) l_sle c_sle k_sle
  have b_sle := F_sle.binds (ps := ["self", "other"]) fun _ _ _ _ _ _ us hl => match us, hl with | [_, _], _ => rfl
  have F_sgt := fun_mk (st := s_sgt) l_sgt c_sgt k_sgt
  have b_sgt := F_sgt.binds (ps := ["self", "other"]) fun _ _ _ _ _ _ us hl => match us, hl with | [_, _], _ => rfl
  have F_sge := fun_mk (st := s_sge) l_sge c_sge k_sge
  have b_sge := F_sge.binds (ps := ["self", "other"]) fun _ _ _ _ _ _ us hl => match us, hl with | [_, _], _ => rfl
  have F_seq_ := fun_mk (st := s_seq_) l_seq_ c_seq_ k_seq_
  have b_seq_ := F_seq_.binds (ps := ["self", "other"]) fun _ _ _ _ _ _ us hl => match us, hl with | [_, _], _ => rfl
  have F_compares := fun_mk (st := s_compares) l_compares c_compares k_compares
  have b_compares := F_compares.binds (ps := ["_law_one", "_law_other", "_law_signs"]) fun _ _ _ _ _ _ us hl => match us, hl with | [_, _, _], _ => rfl
  have F_law := fun_mk (st := s_law) l_law c_law k_law
  have b_law := F_law.binds (ps := ["_law_script"]) fun _ _ _ _ _ _ us hl => match us, hl with | [_], _ => rfl
  refine ⟨PySem.W.fnOf "law" "law" (defArgs s_law) (defBody s_law) (defScope s_law) .none kV_law dc_law pm_law an_law cd_law ct_law, fun s v => .of_eq rfl, fun base _ _ => ?_⟩
  have H_pen : Has l.prog w K mg base 1 "_law_pen" ["_law_script"] (spPen K) := has_of X G F_pen a_pen (ok_pen F_pen T) b_pen
  have H_draw : Has l.prog w K mg base 1 "_law_draw" ["_law_pen_here", "_law_many"] spDraw := has_of X G F_draw a_draw (ok_draw F_draw T) b_draw
  have H_pick : Has l.prog w K mg base 2 "_law_pick" ["_law_pen_here", "_law_options"] (spPick K) := has_of X G F_pick a_pick (ok_pick F_pick T H_draw) b_pick
  have H_great : Has l.prog w K mg base 2 "_law_great" ["_law_pen_here", "_law_many"] spGreat := has_of X G F_great a_great (ok_great F_great T H_draw) b_great
  have H_integer : Has l.prog w K mg base 3 "_law_integer" ["_law_pen_here"] spInteger := has_of X G F_integer a_integer (ok_integer F_integer T H_draw H_great) b_integer
  have H_choose : Has l.prog w K mg base 1 "_law_choose" ["_law_n", "_law_k"] spChoose := has_of X G F_choose a_choose (ok_choose F_choose T) b_choose
  have H_cut : Has l.prog w K mg base 1 "_law_cut" ["_law_row_here"] (spCut K) := has_of X G F_cut a_cut (ok_cut F_cut T) b_cut
  have H_lrowof : Has l.prog w K mg base 2 "_law_row_of" ["_law_amounts"] (spRowOf K) := has_of X G F_lrowof a_lrowof (ok_lrowof F_lrowof T H_cut) b_lrowof
  have H_lrow : Has l.prog w K mg base 4 "_law_row" ["_law_pen_here", "_law_most"] spRow := has_of X G F_lrow a_lrow (ok_lrow F_lrow T H_draw H_integer) b_lrow
  have H_lplus : Has l.prog w K mg base 2 "_law_plus" ["_law_one", "_law_two"] (spLPlus K) := has_of X G F_lplus a_lplus (ok_lplus F_lplus T H_cut) b_lplus
  have H_lsign : Has l.prog w K mg base 1 "_law_sign" ["_law_amount"] spLSign := has_of X G F_lsign a_lsign (ok_lsign F_lsign T) b_lsign
  have H_base : Has l.prog w K mg base 3 "_law_base" ["_law_pen_here"] spBaseS := has_of X G F_base a_base (ok_base F_base T H_draw H_great) b_base
  have H_thing : Has l.prog w K mg base 3 "_law_thing" ["_law_pen_here", "_law_base_here"] (spThing K) := has_of X G F_thing a_thing (ok_thing F_thing T H_draw H_pick) b_thing
  have H_thing_at : Has l.prog w K mg base 2 "_law_thing_at" ["_law_thing_here", "_law_n"] (spThingAt K) := has_of X G F_thing_at a_thing_at (ok_thing_at F_thing_at T H_choose) b_thing_at
  have H_thing_row : Has l.prog w K mg base 3 "_law_thing_row" ["_law_thing_here"] (spThingRow K) := has_of X G F_thing_row a_thing_row (ok_thing_row F_thing_row T H_thing_at H_lrowof) b_thing_row
  have H_joined : Has l.prog w K mg base 1 "_law_joined" ["_law_parts"] (spJoinS K) := has_of X G F_joined a_joined (ok_joined F_joined T) b_joined
  have H_thing_signs : Has l.prog w K mg base 3 "_law_thing_signs" ["_law_thing_here", "_law_low", "_law_high"] (spThingSigns K) := has_of X G F_thing_signs a_thing_signs (ok_thing_signs F_thing_signs T H_thing_at H_lsign H_joined) b_thing_signs
  have H_is_whole : Has l.prog w K mg base 1 "is_whole" ["value"] spIsWhole := has_of X G F_is_whole a_is_whole (ok_is_whole F_is_whole T) b_is_whole
  have H_check_wholes : Has l.prog w K mg base 2 "check_wholes" ["values"] (spCheckWholes K) := has_of X G F_check_wholes a_check_wholes (ok_check_wholes F_check_wholes T H_is_whole) b_check_wholes
  have H_chooses : Has l.prog w K mg base 1 "chooses" ["n", "many"] spChs := has_of X G F_chooses a_chooses (ok_chooses F_chooses T) b_chooses
  have H_row_value : Has l.prog w K mg base 2 "row_value" ["row", "n"] (spRowV K) := has_of X G F_row_value a_row_value (ok_row_value F_row_value T H_chooses) b_row_value
  have H_trimmed : Has l.prog w K mg base 1 "trimmed" ["row"] (spTrim K) := has_of X G F_trimmed a_trimmed (ok_trimmed F_trimmed T) b_trimmed
  have H_row_sum1 : Has l.prog w K mg base 1 "row_sum" ["row", "other"] (spRowSum1 K) := has_of X G F_row_sum a_row_sum (ok_row_sum1 F_row_sum T) b_row_sum
  have H_row_sum : Has l.prog w K mg base 2 "row_sum" ["row", "other"] (spRowSum K) := has_of X G F_row_sum a_row_sum (ok_row_sum F_row_sum T H_row_sum1) b_row_sum
  have H_row_times : Has l.prog w K mg base 1 "row_times" ["row", "factor"] (spRowTimes K) := has_of X G F_row_times a_row_times (ok_row_times F_row_times T) b_row_times
  have H_row_less : Has l.prog w K mg base 3 "row_less" ["row", "other"] (spRowLess K) := has_of X G F_row_less a_row_less (ok_row_less F_row_less T H_row_sum H_row_times) b_row_less
  have H_sign_of : Has l.prog w K mg base 1 "sign_of" ["value"] spSignOf := has_of X G F_sign_of a_sign_of (ok_sign_of F_sign_of T) b_sign_of
  have H_is_reached : Has l.prog w K mg base 3 "is_reached" ["row", "low", "high", "bits"] (spReached K) := has_of X G F_is_reached a_is_reached (ok_is_reached F_is_reached T H_row_value) b_is_reached
  have H_last_short : Has l.prog w K mg base 4 "last_short" ["row", "low", "high"] (spLast K) := has_of X G F_last_short a_last_short (ok_last_short F_last_short T H_is_reached) b_last_short
  have H_straight_guess : Has l.prog w K mg base 3 "straight_guess" ["row", "below", "above"] (spGuess K) := has_of X G F_straight_guess a_straight_guess (ok_straight_guess F_straight_guess T H_row_value) b_straight_guess
  have H_first_between : Has l.prog w K mg base 4 "first_between" ["row", "below", "above"] (spBetween K) := has_of X G F_first_between a_first_between (ok_first_between F_first_between T H_row_value H_straight_guess) b_first_between
  have H_first_reached : Has l.prog w K mg base 5 "first_reached" ["row", "low", "high"] (spFirst K) := has_of X G F_first_reached a_first_reached (ok_first_reached F_first_reached T H_row_value H_last_short H_first_between) b_first_reached
  have H_rising_signs : Has l.prog w K mg base 6 "rising_signs" ["row", "low", "high"] (spRising K) := has_of X G F_rising_signs a_rising_signs (ok_rising_signs F_rising_signs T H_row_value H_first_reached) b_rising_signs
  have H_slope_signs : Has l.prog w K mg base 7 "slope_signs" ["row", "low", "high", "slope"] (spSlope K) := has_of X G F_slope_signs a_slope_signs (ok_slope_signs F_slope_signs T H_row_value H_sign_of H_row_times H_rising_signs) b_slope_signs
  have H_joined_signs : Has l.prog w K mg base 1 "joined_signs" ["triples"] (spJoinS K) := has_of X G F_joined_signs a_joined_signs (ok_joined_signs F_joined_signs T) b_joined_signs
  have H_row_signs : Has l.prog w K mg base 8 "row_signs" ["row", "start"] (spRowSigns K) := has_of X G F_row_signs a_row_signs (ok_row_signs F_row_signs T H_trimmed H_sign_of H_slope_signs H_joined_signs) b_row_signs
  have H_row_of : Has l.prog w K mg base 2 "row_of" ["value"] (spRowOfN K C_Size) := has_of X G F_row_of a_row_of (ok_row_of F_row_of T o_Size no_Size nR_Size_row g_Size H_is_whole) b_row_of
  have H_signs_of_less : Has l.prog w K mg base 9 "signs_of_less" ["row", "other"] (spSoL K) := has_of X G F_signs_of_less a_signs_of_less (ok_signs_of_less F_signs_of_less T H_row_less H_row_signs) b_signs_of_less
  have Oi_sinit := ok_sinit (P := l.prog) (w := w) (mg := mg) (base := base) F_sinit cl_Size nR_Size_row H_check_wholes H_trimmed
  have S2_Size : MkH l.prog w K mg base 3 C_Size [] (spSInit K C_Size) := ⟨_, _, _, _, ⟨mk_Size, a_sinit, i_sinit, kC_Size⟩, Oi_sinit, b2_sinit, v2_sinit⟩
  have S1_Size : MkH l.prog w K mg base 3 C_Size [.ref T0_sinit] (spSInit K C_Size) := ⟨_, _, _, _, ⟨mk_Size, a_sinit, i_sinit, kC_Size⟩, Oi_sinit, b1_sinit, v1_sinit⟩
  have O_slt : EO.OpH l.prog w K mg base 10 C_Size "__lt__" (spCmpS K C_Size fun x => decide (x < 0)) := ⟨f_slt, a_slt, i_slt, rawN (ok_slt F_slt T cl_Size nR_Size_row H_row_of H_signs_of_less) b_slt⟩
  have O_sle : EO.OpH l.prog w K mg base 10 C_Size "__le__" (spCmpS K C_Size fun x => decide (x ≤ 0)) := ⟨f_sle, a_sle, i_sle, rawN (ok_sle F_sle T cl_Size nR_Size_row H_row_of H_signs_of_less) b_sle⟩
  have O_sgt : EO.OpH l.prog w K mg base 10 C_Size "__gt__" (spCmpS K C_Size fun x => decide (x > 0)) := ⟨f_sgt, a_sgt, i_sgt, rawN (ok_sgt F_sgt T cl_Size nR_Size_row H_row_of H_signs_of_less) b_sgt⟩
  have O_sge : EO.OpH l.prog w K mg base 10 C_Size "__ge__" (spCmpS K C_Size fun x => decide (x ≥ 0)) := ⟨f_sge, a_sge, i_sge, rawN (ok_sge F_sge T cl_Size nR_Size_row H_row_of H_signs_of_less) b_sge⟩
  have O_seq_ : EO.OpH l.prog w K mg base 1 C_Size "__eq__" (spSEq K C_Size) := ⟨f_seq_, a_seq_, i_seq_, rawN (ok_seq_ F_seq_ T o_Size nR_Size_row g_Size) b_seq_⟩
  have H_compares : Has l.prog w K mg base 11 "_law_compares" ["_law_one", "_law_other", "_law_signs"] (spComS K C_Size) := has_of X G F_compares a_compares (ok_compares_s F_compares T O_sle O_slt O_sge O_sgt) b_compares
  have H_compares_i : Has l.prog w K mg base 11 "_law_compares" ["_law_one", "_law_other", "_law_signs"] (spComI K C_Size) := has_of X G F_compares a_compares (ok_compares_i F_compares T si_Size is_Size O_sle O_slt O_sge O_sgt) b_compares
  exact ok_law F_law T g_Size H_pen H_draw H_integer H_base H_thing H_lrow H_thing_row H_thing_signs H_lplus H_compares H_compares_i S2_Size O_seq_
theorem walk {l : PySem.W.OpenLaw} {q : Program} {loose : List Str} {XP : (Str → Option Value) → Heap → Prop} {YP : World → Heap → Prop} {d : DefRec} {K : Params → PySem.W.Frag} (hn : l.most = some 63) (hdf : d.params.defaults = []) (hY : ∀ (w : World) (h : Heap), YP w h → (K w.params).In h)
    (F : ∀ (w : World) (mg : Str → Option Value) (fa : Addr) (h : Heap), (K w.params).In h → h.Ns mainGlobals mg → mg d.name = some (.ref fa) →
      ∃ fd : FuncData, (∀ (s : Shared) (u : Value), BindsTo s fd ⟨[u], []⟩ [("_law_script", u)]) ∧ ∀ base : Heap, (K w.params).In base → base.Ns mainGlobals mg → FnOk l.prog w (K w.params) mg base CX0 13 fa fd ["_law_script"] (spLawH (K w.params))) :
    PySem.W.WalkO q loose XP YP l.row.toRowW d [] (fun f vs => PySem.call f vs) := L2.walk_of (n := 63) (k := 13) (x := "_law_script") (CX := fun _ => CX0) (sp := fun w => spLawH (K w.params)) hn (by decide) hdf ⟨rfl, by decide, by decide⟩ hY F (fun _ _ a ns hl _ hS => ⟨a, ns, rfl, hS, hl, fun _ => rfl⟩) fun _ _ _ _ _ z => z
end
end EN

open PySem PySem.W PyProof.Rows
set_option maxRecDepth 100000 in
set_option maxHeartbeats 0 in
theorem PySem.Challenge.cw_everyname_k18_whole_sizes_compared_for_e_holds : PySem.Challenge.rw_everyname_k18_whole_sizes_compared_for_e.Holds := by
  w_on; o_law; k_head; (case hw => w_witness2)
  k_fill
  refine EN.walk (l := PySem.Challenge.rw_everyname_k18_whole_sizes_compared_for_e) rfl rfl (fun w h Y => PySem.W.kIn_of Y) ?F
  case F =>
    intro w mg fa h KX G hmg
    refine' EN.all_mk KX G hmg ?aC_Size ?pg_Size ?hd_Size ?po_Size ?sa_Size ?mk_Size ?kC_Size ?nR_Size_row ?ha_Size ?hn_Size ?htk_Size ?hm_Size ?sf_Size ?ty_Size ?si_Size ?st_Size ?is_Size ?a_pen ?l_pen ?c_pen ?k_pen ?a_draw ?l_draw ?c_draw ?k_draw ?a_pick ?l_pick ?c_pick ?k_pick ?a_great ?l_great ?c_great ?k_great ?a_integer ?l_integer ?c_integer ?k_integer ?a_choose ?l_choose ?c_choose ?k_choose ?a_cut ?l_cut ?c_cut ?k_cut ?a_lrowof ?l_lrowof ?c_lrowof ?k_lrowof ?a_lrow ?l_lrow ?c_lrow ?k_lrow ?a_lplus ?l_lplus ?c_lplus ?k_lplus ?a_lsign ?l_lsign ?c_lsign ?k_lsign ?a_base ?l_base ?c_base ?k_base ?a_thing ?l_thing ?c_thing ?k_thing ?a_thing_at ?l_thing_at ?c_thing_at ?k_thing_at ?a_thing_row ?l_thing_row ?c_thing_row ?k_thing_row ?a_joined ?l_joined ?c_joined ?k_joined ?a_thing_signs ?l_thing_signs ?c_thing_signs ?k_thing_signs ?a_is_whole ?l_is_whole ?c_is_whole ?k_is_whole ?a_check_wholes ?l_check_wholes ?c_check_wholes ?k_check_wholes ?a_chooses ?l_chooses ?c_chooses ?k_chooses ?a_row_value ?l_row_value ?c_row_value ?k_row_value ?a_trimmed ?l_trimmed ?c_trimmed ?k_trimmed ?a_row_sum ?l_row_sum ?c_row_sum ?k_row_sum ?a_row_times ?l_row_times ?c_row_times ?k_row_times ?a_row_less ?l_row_less ?c_row_less ?k_row_less ?a_sign_of ?l_sign_of ?c_sign_of ?k_sign_of ?a_is_reached ?l_is_reached ?c_is_reached ?k_is_reached ?a_last_short ?l_last_short ?c_last_short ?k_last_short ?a_straight_guess ?l_straight_guess ?c_straight_guess ?k_straight_guess ?a_first_between ?l_first_between ?c_first_between ?k_first_between ?a_first_reached ?l_first_reached ?c_first_reached ?k_first_reached ?a_rising_signs ?l_rising_signs ?c_rising_signs ?k_rising_signs ?a_slope_signs ?l_slope_signs ?c_slope_signs ?k_slope_signs ?a_joined_signs ?l_joined_signs ?c_joined_signs ?k_joined_signs ?a_row_signs ?l_row_signs ?c_row_signs ?k_row_signs ?a_row_of ?l_row_of ?c_row_of ?k_row_of ?a_signs_of_less ?l_signs_of_less ?c_signs_of_less ?k_signs_of_less ?a_sinit ?i_sinit ?l_sinit ?c_sinit ?k_sinit ?lTI_sinit ?lT0_sinit ?a_slt ?i_slt ?l_slt ?c_slt ?k_slt ?a_sle ?i_sle ?l_sle ?c_sle ?k_sle ?a_sgt ?i_sgt ?l_sgt ?c_sgt ?k_sgt ?a_sge ?i_sge ?l_sge ?c_sge ?k_sge ?a_seq_ ?i_seq_ ?l_seq_ ?c_seq_ ?k_seq_ ?a_compares ?l_compares ?c_compares ?k_compares ?a_law ?l_law ?c_law ?k_law ?z_list ?z_len ?z_int ?z_abs ?z_range ?z_tuple ?z_isinstance ?z_bool ?z_all ?z_sum ?z_zip ?z_min ?z_sorted ?z_any ?z_set ?z_max ?z_str ?z_enumerate ?z_reversed ?z_dict
    (case aC_Size => k_is); (case pg_Size => k_is); (case hd_Size => k_is); (case po_Size => k_is)
    (case sa_Size => k_is); (case mk_Size => k_is); (case kC_Size => k_is); (case nR_Size_row => k_is)
    (case ha_Size => k_is); (case hn_Size => k_is); (case htk_Size => k_is); (case hm_Size => k_is)
    (case sf_Size => k_is); (case ty_Size => k_is); (case si_Size => k_is); (case st_Size => k_is)
    (case is_Size => k_is); (case a_pen => k_is); (case l_pen => k_is); (case c_pen => k_is)
    (case k_pen => k_is); (case a_draw => k_is); (case l_draw => k_is); (case c_draw => k_is)
    (case k_draw => k_is); (case a_pick => k_is); (case l_pick => k_is); (case c_pick => k_is)
    (case k_pick => k_is); (case a_great => k_is); (case l_great => k_is); (case c_great => k_is)
    (case k_great => k_is); (case a_integer => k_is); (case l_integer => k_is); (case c_integer => k_is)
    (case k_integer => k_is); (case a_choose => k_is); (case l_choose => k_is); (case c_choose => k_is)
    (case k_choose => k_is); (case a_cut => k_is); (case l_cut => k_is); (case c_cut => k_is)
    (case k_cut => k_is); (case a_lrowof => k_is); (case l_lrowof => k_is); (case c_lrowof => k_is)
    (case k_lrowof => k_is); (case a_lrow => k_is); (case l_lrow => k_is); (case c_lrow => k_is)
    (case k_lrow => k_is); (case a_lplus => k_is); (case l_lplus => k_is); (case c_lplus => k_is)
    (case k_lplus => k_is); (case a_lsign => k_is); (case l_lsign => k_is); (case c_lsign => k_is)
    (case k_lsign => k_is); (case a_base => k_is); (case l_base => k_is); (case c_base => k_is)
    (case k_base => k_is); (case a_thing => k_is); (case l_thing => k_is); (case c_thing => k_is)
    (case k_thing => k_is); (case a_thing_at => k_is); (case l_thing_at => k_is); (case c_thing_at => k_is)
    (case k_thing_at => k_is); (case a_thing_row => k_is); (case l_thing_row => k_is); (case c_thing_row => k_is)
    (case k_thing_row => k_is); (case a_joined => k_is); (case l_joined => k_is); (case c_joined => k_is)
    (case k_joined => k_is); (case a_thing_signs => k_is); (case l_thing_signs => k_is); (case c_thing_signs => k_is)
    (case k_thing_signs => k_is); (case a_is_whole => k_is); (case l_is_whole => k_is); (case c_is_whole => k_is)
    (case k_is_whole => k_is); (case a_check_wholes => k_is); (case l_check_wholes => k_is); (case c_check_wholes => k_is)
    (case k_check_wholes => k_is); (case a_chooses => k_is); (case l_chooses => k_is); (case c_chooses => k_is)
    (case k_chooses => k_is); (case a_row_value => k_is); (case l_row_value => k_is); (case c_row_value => k_is)
    (case k_row_value => k_is); (case a_trimmed => k_is); (case l_trimmed => k_is); (case c_trimmed => k_is)
    (case k_trimmed => k_is); (case a_row_sum => k_is); (case l_row_sum => k_is); (case c_row_sum => k_is)
    (case k_row_sum => k_is); (case a_row_times => k_is); (case l_row_times => k_is); (case c_row_times => k_is)
    (case k_row_times => k_is); (case a_row_less => k_is); (case l_row_less => k_is); (case c_row_less => k_is)
    (case k_row_less => k_is); (case a_sign_of => k_is); (case l_sign_of => k_is); (case c_sign_of => k_is)
    (case k_sign_of => k_is); (case a_is_reached => k_is); (case l_is_reached => k_is); (case c_is_reached => k_is)
    (case k_is_reached => k_is); (case a_last_short => k_is); (case l_last_short => k_is); (case c_last_short => k_is)
    (case k_last_short => k_is); (case a_straight_guess => k_is); (case l_straight_guess => k_is); (case c_straight_guess => k_is)
    (case k_straight_guess => k_is); (case a_first_between => k_is); (case l_first_between => k_is); (case c_first_between => k_is)
    (case k_first_between => k_is); (case a_first_reached => k_is); (case l_first_reached => k_is); (case c_first_reached => k_is)
    (case k_first_reached => k_is); (case a_rising_signs => k_is); (case l_rising_signs => k_is); (case c_rising_signs => k_is)
    (case k_rising_signs => k_is); (case a_slope_signs => k_is); (case l_slope_signs => k_is); (case c_slope_signs => k_is)
    (case k_slope_signs => k_is); (case a_joined_signs => k_is); (case l_joined_signs => k_is); (case c_joined_signs => k_is)
    (case k_joined_signs => k_is); (case a_row_signs => k_is); (case l_row_signs => k_is); (case c_row_signs => k_is)
    (case k_row_signs => k_is); (case a_row_of => k_is); (case l_row_of => k_is); (case c_row_of => k_is)
    (case k_row_of => k_is); (case a_signs_of_less => k_is); (case l_signs_of_less => k_is); (case c_signs_of_less => k_is)
    (case k_signs_of_less => k_is); (case a_sinit => k_is); (case i_sinit => k_is); (case l_sinit => k_is)
    (case c_sinit => k_is); (case k_sinit => k_is); (case lTI_sinit => k_is); (case lT0_sinit => k_is)
    (case a_slt => k_is); (case i_slt => k_is); (case l_slt => k_is); (case c_slt => k_is)
    (case k_slt => k_is); (case a_sle => k_is); (case i_sle => k_is); (case l_sle => k_is)
    (case c_sle => k_is); (case k_sle => k_is); (case a_sgt => k_is); (case i_sgt => k_is)
    (case l_sgt => k_is); (case c_sgt => k_is); (case k_sgt => k_is); (case a_sge => k_is)
    (case i_sge => k_is); (case l_sge => k_is); (case c_sge => k_is); (case k_sge => k_is)
    (case a_seq_ => k_is); (case i_seq_ => k_is); (case l_seq_ => k_is); (case c_seq_ => k_is)
    (case k_seq_ => k_is); (case a_compares => k_is); (case l_compares => k_is); (case c_compares => k_is)
    (case k_compares => k_is); (case a_law => k_is); (case l_law => k_is); (case c_law => k_is)
    (case k_law => k_is); (case z_list => k_is); (case z_len => k_is); (case z_int => k_is)
    (case z_abs => k_is); (case z_range => k_is); (case z_tuple => k_is); (case z_isinstance => k_is)
    (case z_bool => k_is); (case z_all => k_is); (case z_sum => k_is); (case z_zip => k_is)
    (case z_min => k_is); (case z_sorted => k_is); (case z_any => k_is); (case z_set => k_is)
    (case z_max => k_is); (case z_str => k_is); (case z_enumerate => k_is); (case z_reversed => k_is)
    (case z_dict => k_is)

