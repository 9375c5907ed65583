import PyProof.Rows.All
import Wide.All
import OpenK.AllK
import Wide.FinOn
import KE.KStateDown
import HandS.ForMost
import HandS.IsInst
import HandS.Conv
import HandS.Wide
import HandS.WideBits
import HandS.SortInts
import HandS.DictComp
import HandS.Zip
import HandS.Rev
import HandS.Flow
import HandS.Steps
import HandS.Defaults
import HandS.Head0
import HandS.Head1
import HandS.Head2
import HandS.HeadEnd
import HandS.HeadHook1
import HandS.HeadHook2
import HandS.Walk
import HandS.Text
import HandS.TupAny
import HandS.DictEq
import HandS.ListEq
import HandS.TupMul
import HandS.ExcOwn
import HandS.WordsExc
import HandS.CallSlots
import HandS.Exc
import HandS.ExcIs
import HandS.TryOnly
import HandS.MakeKwOnly
import PySem.Challenge.RW_fewasks_k37_no_script
set_option Elab.async false
set_option linter.all false
set_option maxRecDepth 100000
set_option maxHeartbeats 4000000
namespace Fw
open PySem L2 RZ RT
/-! ### readings by name -/
abbrev rAddI : R2 := rI0 fun i j => .int (i + j)
abbrev rSubI : R2 := rI0 fun i j => .int (i - j)
abbrev rMulI : R2 := rI CMul fun i j => .int (i * j)
abbrev rDivI : R2 := rI CDivW fun i j => .int (i / j)
abbrev rModI : R2 := rI (fun _ j => 0 < j) fun i j => .int (i % j)
abbrev rPowI : R2 := rI CPow fun i j => .int (i ^ j.toNat)
abbrev rLtI : R2 := rI0 fun i j => .bl (decide (i < j))
abbrev rLeI : R2 := rI0 fun i j => .bl (decide (i ≤ j))
abbrev rGtI : R2 := rI0 fun i j => .bl (decide (j < i))
abbrev rGeI : R2 := rI0 fun i j => .bl (decide (j ≤ i))
abbrev rNegI : V → Hp → VK → Prop := rU fun i => .int (-i)
abbrev fIsN : R2 := fun x y H Q => y = .non ∧ Q (.bl (decide (x = .non))) H
abbrev fNotN : R2 := fun x y H Q => y = .non ∧ Q (.bl (!decide (x = .non))) H
def fLen (K : PySem.W.Frag) : List V → Hp → VK → Prop := fun xs H Q => ∃ x n, xs = [x] ∧ LenV K x H n ∧ Q (.int n) H
def fListOf (K : PySem.W.Frag) : List V → Hp → VK → Prop := fun xs H Q => ∃ p ys, xs = [.ref p] ∧ (SqL K H p ys ∨ SqT K H p ys) ∧ ∀ l, H l = none → Q (.ref l) (upd H l (.lst ys))
def fTupleOf (K : PySem.W.Frag) : List V → Hp → VK → Prop := fun xs H Q => ∃ p ys, xs = [.ref p] ∧ ((SqL K H p ys ∧ ∀ l, H l = none → Q (.ref l) (upd H l (.tup ys))) ∨ (SqT K H p ys ∧ Q (.ref p) H))
def fMin2 : List V → Hp → VK → Prop := fun xs H Q => ∃ i j, xs = [.int i, .int j] ∧ Q (.int (if j < i then j else i)) H
def fMax2 : List V → Hp → VK → Prop := fun xs H Q => ∃ i j, xs = [.int i, .int j] ∧ Q (.int (if j > i then j else i)) H
/-! ### steps -/
section
variable {K : PySem.W.Frag} {H : Hp} {p : Addr} {xs : List V} {i : Int} {v : V} {Q : VK}
theorem ixL (h : H p = some (.lst xs)) (ha : atI xs i = some v) (q : Q v H) : rIx K (.ref p) (.int i) H Q := .inl ⟨p, xs, i, v, rfl, rfl, .inl (.inl h), ha, q⟩
theorem ixT (h : H p = some (.tup xs)) (ha : atI xs i = some v) (q : Q v H) : rIx K (.ref p) (.int i) H Q := .inr (.inl ⟨p, xs, i, v, rfl, rfl, .inl (.inl h), ha, q⟩)
theorem lenL {σ : L2.St} (h : H p = some (.lst xs)) (q : Q (.int xs.length) H) : tNil σ H fun ys H2 => fLen K (.ref p :: ys) H2 Q := ⟨_, _, rfl, .inl ⟨xs, .inl (.inl h), rfl⟩, q⟩
theorem lenT {σ : L2.St} (h : H p = some (.tup xs)) (q : Q (.int xs.length) H) : tNil σ H fun ys H2 => fLen K (.ref p :: ys) H2 Q := ⟨_, _, rfl, .inr ⟨xs, .inl (.inl h), rfl⟩, q⟩
theorem sqL (h : H p = some (.lst xs)) : SqL K H p xs := .inl (.inl h)
theorem sqT (h : H p = some (.tup xs)) : SqT K H p xs := .inl (.inl h)
end
theorem updS {H : Hp} {a : Addr} {o : HO} : upd H a o a = some o := upd_same
theorem updN {H : Hp} {a b : Addr} {o : HO} {r : Option HO} (n : b ≠ a) (h : H b = r) : upd H a o b = r := by rw [upd_ne n]; exact h
theorem small100 {m : Int} (h : m.natAbs ≤ 1000000000000000000) : m.natAbs < 2 ^ 100 := Nat.lt_of_le_of_lt h (by decide)
/-- the number in a slot, as a measure -/
def slotN (k : Nat) (σ : L2.St) : Nat := match σ[k]? with
  | some (some (V.int n)) => n.toNat
  | _ => 0
theorem getLastD_of {l : List V} (h : l ≠ []) : l.getLastD .non = l.getLast h := by
  rw [List.getLastD_eq_getLast?, List.getLast?_eq_getLast h]
  rfl
theorem pow18 : (10 : Int) ^ (18 : Int).toNat = 1000000000000000000 := by decide
/-! ### the deck of a law -/
/-- the deck at D: the cells at c, the turn at most t -/
def Dk (c D : Addr) (ns : List Int) (t : Nat) (H : Hp) : Prop := c ≠ D ∧ H c = some (.lst (ns.map V.int)) ∧ ns.length ≤ 63 ∧
  ∃ i n u : Int, H D = some (.lst [.ref c, .int i, .int n, .int u]) ∧ 0 ≤ i ∧ i ≤ ns.length ∧ 0 ≤ n ∧ 0 ≤ u ∧ u ≤ t
def sp_l_deck (K : PySem.W.Frag) : Sp := fun vs H Q _ => ∃ (a : Addr) (ns : List Int), vs = [.ref a] ∧ SqL K H a (ns.map V.int) ∧ ns.length ≤ 63 ∧
  ∀ c D H', Same H H' → H c = none → H D = none → Dk c D ns 0 H' → Q (.ref D) H'
def sp_l_mixed (_ : PySem.W.Frag) : Sp := fun vs H Q _ => ∃ (c t : Int), vs = [.int c, .int t] ∧ 0 ≤ t ∧ t ≤ 1000000000 ∧ ∀ v : Int, Q (.int v) H
def sp_l_draw (_ : PySem.W.Frag) : Sp := fun vs H Q _ => ∃ (c D : Addr) (ns : List Int) (t : Nat) (m : Int), vs = [.ref D, .int m] ∧ Dk c D ns t H ∧ t < 1000000000 ∧ 0 < m ∧ m.natAbs < 2 ^ 100 ∧
  ∀ (v : Int) (H' : Hp), 0 ≤ v → v < m → Dk c D ns (t + 1) H' → (∀ b, b ≠ D → H' b = H b) → Q (.int v) H'
def sp_l_int (_ : PySem.W.Frag) : Sp := fun vs H Q _ => ∃ i : Int, vs = [.int i] ∧ Q (.bl true) H
abbrev N_l_deck : List Str := ["_law_script"]
def t_l_deck (K : PySem.W.Frag) : TS := (tRet (tLst (tCons (tCB (fListOf K) (tCons (tVar 0) tNil)) (tCons (tC (.int 0)) (tCons (tC (.int 0)) (tCons (tC (.int 0)) tNil))))))
abbrev N_l_mixed : List Str := ["_law_cell", "_law_turn"]
def t_l_mixed (K : PySem.W.Frag) : TS := (tRet (tOp rModI (tOp rPowI (tOp rAddI (tOp rAddI (tOp rModI (tVar 0) (tC (.int 2147483629))) (tOp rMulI (tVar 1) (tC (.int 1000003)))) (tC (.int 17))) (tC (.int 5))) (tC (.int 2147483647))))
abbrev N_l_draw : List Str := ["_law_deck_here", "_law_many", "_law_cells", "_law_found", "_law_number"]
def t_l_draw_in (K : PySem.W.Frag) : TS := (tSeq (tIfS (tTest (tOp rLtI (tOp (rIx K) (tVar 2) (tOp rSubI (tOp (rIx K) (tVar 0) (tC (.int 1))) (tC (.int 1)))) (tOp rPowI (tC (.int 10)) (tC (.int 18))))) (tRet (tOp rModI (tCall (sp_l_mixed K) [] E0 (tCons (tOp (rIx K) (tVar 2) (tOp rSubI (tOp (rIx K) (tVar 0) (tC (.int 1))) (tC (.int 1)))) (tCons (tOp (rIx K) (tVar 0) (tC (.int 3))) tNil))) (tVar 1))) tNext)
    (tAsg (tOp (rIx K) (tVar 2) (tOp rSubI (tOp (rIx K) (tVar 0) (tC (.int 1))) (tC (.int 1)))) (gSub (tVar 0) (tC (.int 2)) rSetL)))
def t_l_draw_last (K : PySem.W.Frag) : TS := (tRet (tOp rModI (tCall (sp_l_mixed K) [] E0 (tCons (tVar 4) (tCons (tOp (rIx K) (tVar 0) (tC (.int 3))) tNil))) (tVar 1)))
def t_l_draw_rest (K : PySem.W.Frag) : TS := (tSeq (tIfS (tTest (tOp rGtI (tOp (rIx K) (tVar 0) (tC (.int 2))) (tC (.int 0)))) (tSeq (tAsg (tOp rModI (tOp (rIx K) (tVar 0) (tC (.int 2))) (tVar 1)) (gName 3))
    (tSeq (tAsg (tOp rDivI (tOp (rIx K) (tVar 0) (tC (.int 2))) (tVar 1)) (gSub (tVar 0) (tC (.int 2)) rSetL))
    (tRet (tVar 3)))) tNext)
    (tSeq (tAsg (tOp rMulI (tOp (rIx K) (tVar 0) (tC (.int 3))) (tC (.int 48271))) (gName 4))
    (tSeq (tIfS (tTest (tOp rGtI (tCB (fLen K) (tCons (tVar 2) tNil)) (tC (.int 0)))) (tAsg (tOp rAddI (tVar 4) (tOp rModI (tOp (rIx K) (tVar 2) (tOp rModI (tOp rMulI (tOp (rIx K) (tVar 0) (tC (.int 3))) (tC (.int 7))) (tCB (fLen K) (tCons (tVar 2) tNil)))) (tC (.int 2147483629)))) (gName 4)) tNext)
    (t_l_draw_last K))))
def t_l_draw_mid (K : PySem.W.Frag) : TS := (tSeq (tIfS (tAnd (tTest (tOp rEq (tOp (rIx K) (tVar 0) (tC (.int 2))) (tC (.int 0)))) (tTest (tOp rLtI (tOp (rIx K) (tVar 0) (tC (.int 1))) (tCB (fLen K) (tCons (tVar 2) tNil))))) (tSeq (tAsg (tOp rAddI (tOp (rIx K) (tVar 0) (tC (.int 1))) (tC (.int 1))) (gSub (tVar 0) (tC (.int 1)) rSetL))
    (t_l_draw_in K)) tNext)
    (t_l_draw_rest K))
def t_l_draw (K : PySem.W.Frag) : TS := (tSeq (tAsg (tOp (rIx K) (tVar 0) (tC (.int 0))) (gName 2))
    (tSeq (tAsg (tOp rAddI (tOp (rIx K) (tVar 0) (tC (.int 3))) (tC (.int 1))) (gSub (tVar 0) (tC (.int 3)) rSetL))
    (t_l_draw_mid K)))
abbrev N_l_int : List Str := ["_law_thing"]
def t_l_int (K : PySem.W.Frag) : TS := (tRet (tAndV (tCB (rIsi K) (tCons (tVar 0) (tCons (tC (.ty "int")) tNil))) (tNotV (tCB (rIsi K) (tCons (tVar 0) (tCons (tC (.ty "bool")) tNil))))))
theorem pure_l_deck {K : PySem.W.Frag} {vs : List V} {H : Hp} {Q : VK} {E : XK} (h : sp_l_deck K vs H Q E) : t_l_deck K { nx := fun _ H' => Q .non H', rt := Q } (start N_l_deck vs) H := by
  obtain ⟨a, ns, rfl, hS, hl, k⟩ := h
  refine ⟨_, rfl, a, _, rfl, .inl hS, fun c nc => ⟨by show (4 : Nat) ≤ sizeLine; decide, fun D nD => ?_⟩⟩
  have ncD : c ≠ D := fun e => by rw [← e, updS] at nD; cases nD
  have nD0 : H D = none := by rw [upd_ne ncD.symm] at nD; exact nD
  refine k c D _ (fun b o e => updN (ne_of_none e nD0) (updN (ne_of_none e nc) e)) nc nD0 ⟨ncD, updN ncD updS, hl, 0, 0, 0, updS, Int.le_refl _, by omega, Int.le_refl _, Int.le_refl _, Int.le_refl _⟩
theorem pure_l_mixed {K : PySem.W.Frag} {vs : List V} {H : Hp} {Q : VK} {E : XK} (h : sp_l_mixed K vs H Q E) : t_l_mixed K { nx := fun _ H' => Q .non H', rt := Q } (start N_l_mixed vs) H := by
  obtain ⟨c, t, rfl, h0, h1, k⟩ := h
  refine ⟨_, rfl, _, _, rfl, rfl, (by show (0 : Int) < 2147483629; decide), _, rfl, _, _, rfl, rfl, .inr ⟨by decide, by decide⟩, _, _, rfl, rfl, _, _, rfl, rfl, _, _, rfl, rfl, ⟨by decide, by decide, ?_⟩, _, _, rfl, rfl, (by show (0 : Int) < 2147483647; decide), k _⟩
  have := Int.emod_nonneg c (show (2147483629 : Int) ≠ 0 by decide)
  have := Int.emod_lt_of_pos c (show (0 : Int) < 2147483629 by decide)
  omega
theorem pure_l_int {K : PySem.W.Frag} {vs : List V} {H : Hp} {Q : VK} {E : XK} (h : sp_l_int K vs H Q E) : t_l_int K { nx := fun _ H' => Q .non H', rt := Q } (start N_l_int vs) H := by
  obtain ⟨i, rfl, k⟩ := h
  refine ⟨_, rfl, _, _, _, _, true, rfl, .ty _, .base (.int i), kit_ty (by decide +kernel), _, rfl, iteT ?_⟩
  refine ⟨_, rfl, _, _, _, _, false, rfl, .ty _, .base (.int i), kit_ty (by decide +kernel), _, rfl, k⟩
theorem pure_l_draw {K : PySem.W.Frag} {vs : List V} {H : Hp} {Q : VK} {E : XK} (h : sp_l_draw K vs H Q E) : t_l_draw K { nx := fun _ H' => Q .non H', rt := Q } (start N_l_draw vs) H := by
  obtain ⟨c, D, ns, t, m, rfl, ⟨ncD, hc, hl, i, n, u, hD, i0, i1, n0, u0, u1⟩, ht, m0, m1, k⟩ := h
  have cells : ∀ {j : Int}, 0 ≤ j → j < ns.length → ∃ z : Int, atI (ns.map V.int) j = some (.int z) := fun {j} h0 h1 => by
    obtain ⟨q, rfl⟩ := Int.eq_ofNat_of_zero_le h0
    have hq : q < ns.length := by omega
    exact ⟨ns[q], atI_nat (by rw [List.getElem?_map, List.getElem?_eq_getElem hq]; rfl)⟩
  -- the rest, from any i and n
  have rest : ∀ (i n : Int) (H2 : Hp) (z3 z4 : Option V), 0 ≤ i → i ≤ ns.length → 0 ≤ n → H2 D = some (.lst [.ref c, .int i, .int n, .int (u + 1)]) → H2 c = some (.lst (ns.map V.int)) → (∀ b, b ≠ D → H2 b = H b) →
      t_l_draw_rest K { nx := fun _ H' => Q .non H', rt := Q } [some (.ref D), some (.int m), some (.ref c), z3, z4] H2 := by
    intro i n H2 z3 z4 i0 i1 n0 hD2 hc2 fr2
    have mod0 : ∀ x : Int, 0 ≤ x % m := fun x => Int.emod_nonneg x (by omega)
    have mod1 : ∀ x : Int, x % m < m := fun x => Int.emod_lt_of_pos x m0
    refine ⟨_, rfl, ixL hD2 rfl ⟨_, _, rfl, rfl, _, rfl, ite2 (fun e => ?_) (fun e => ?_)⟩⟩
    · have hn : 0 < n := of_decide_eq_true e
      refine ⟨_, rfl, ixL hD2 rfl ⟨_, rfl, _, _, rfl, rfl, m0, ?_⟩⟩
      refine ⟨_, rfl, ixL hD2 rfl ⟨_, rfl, _, _, rfl, rfl, wide_div m0 m1 (by decide) (by decide), _, rfl, D, _, _, 2, rfl, rfl, hD2, rfl, ?_⟩⟩
      refine ⟨_, rfl, k _ _ (mod0 n) (mod1 n) ⟨ncD, updN ncD hc2, hl, i, n / m, u + 1, updS, i0, i1, Int.ediv_nonneg n0 (by omega), by omega, by omega⟩ fun b nb => (upd_ne nb).trans (fr2 b nb)⟩
    · refine ⟨_, rfl, ixL hD2 rfl ⟨_, _, rfl, rfl, .inr ⟨by decide, by decide⟩, ?_⟩⟩
      have last : ∀ (y : Int), t_l_draw_last K { nx := fun _ H' => Q .non H', rt := Q } [some (.ref D), some (.int m), some (.ref c), z3, some (.int y)] H2 := fun y => by
        refine ⟨_, rfl, _, rfl, ixL hD2 rfl ⟨y, u + 1, rfl, by omega, by omega, fun v => ?_⟩⟩
        refine ⟨_, rfl, _, _, rfl, rfl, m0, k _ _ (mod0 v) (mod1 v) ⟨ncD, hc2, hl, i, n, u + 1, hD2, i0, i1, n0, by omega, by omega⟩ fr2⟩
      refine ⟨_, rfl, lenL hc2 ⟨_, _, rfl, rfl, _, rfl, ite2 (fun e => ?_) (fun e => ?_)⟩⟩
      · have hn : 0 < ns.length := by
          have q : (0 : Int) < (ns.map V.int).length := of_decide_eq_true e
          rw [List.length_map] at q
          omega
        have hlen : ((ns.map V.int).length : Int) = ns.length := by rw [List.length_map]
        obtain ⟨z, hz⟩ := cells (j := (u + 1) * 7 % ((ns.map V.int).length : Int)) (Int.emod_nonneg _ (by omega)) (by rw [hlen]; exact Int.emod_lt_of_pos _ (by omega))
        refine ⟨_, rfl, _, rfl, _, rfl, ixL hD2 rfl ⟨_, _, rfl, rfl, .inr ⟨by decide, by decide⟩, _, rfl, lenL hc2 ⟨_, _, rfl, rfl, (by show (0 : Int) < ((ns.map V.int).length : Int); omega), ixL hc2 hz ⟨_, _, rfl, rfl, (by show (0 : Int) < 2147483629; decide), _, _, rfl, rfl, ?_⟩⟩⟩⟩
        exact last _
      · exact last _
  have mid : ∀ (H1 : Hp) (z3 z4 : Option V), H1 D = some (.lst [.ref c, .int i, .int n, .int (u + 1)]) → H1 c = some (.lst (ns.map V.int)) → (∀ b, b ≠ D → H1 b = H b) →
      t_l_draw_mid K { nx := fun _ H' => Q .non H', rt := Q } [some (.ref D), some (.int m), some (.ref c), z3, z4] H1 := by
    intro H1 z3 z4 hD1 hc1 fr1
    refine ⟨_, rfl, ixL hD1 rfl ⟨rfl, _, rfl, ?_⟩⟩
    refine ite2 (fun e => ?_) (fun e => iteF (rest i n H1 _ _ i0 i1 n0 hD1 hc1 fr1))
    refine ⟨_, rfl, ixL hD1 rfl ⟨_, rfl, lenL hc1 ⟨_, _, rfl, rfl, _, rfl, ite2 (fun e2 => ?_) (fun e2 => rest i n H1 _ _ i0 i1 n0 hD1 hc1 fr1)⟩⟩⟩
    have hi : i < ns.length := by
      have q : i < ((ns.map V.int).length : Int) := of_decide_eq_true e2
      rw [List.length_map] at q
      exact q
    obtain ⟨z, hz⟩ := cells i0 hi
    have ei : i + 1 - 1 = i := by omega
    have inn : ∀ (H2 : Hp), H2 D = some (.lst [.ref c, .int (i + 1), .int n, .int (u + 1)]) → H2 c = some (.lst (ns.map V.int)) → (∀ b, b ≠ D → H2 b = H b) →
        t_l_draw_in K { nx := t_l_draw_rest K { nx := fun _ H' => Q .non H', rt := Q }, rt := Q } [some (.ref D), some (.int m), some (.ref c), z3, z4] H2 := by
      intro H2 hD2 hc2 fr2
      refine ⟨_, rfl, _, rfl, ixL hD2 rfl ⟨_, _, rfl, rfl, ixL hc2 (by rw [ei]; exact hz) ⟨_, _, rfl, rfl, ⟨by decide, by decide, by decide⟩, _, _, rfl, rfl, _, rfl, ite2 (fun e3 => ?_) (fun e3 => ?_)⟩⟩⟩
      · refine ⟨_, rfl, _, rfl, ixL hD2 rfl ⟨_, _, rfl, rfl, ixL hc2 (by rw [ei]; exact hz) ⟨_, rfl, ixL hD2 rfl ⟨z, u + 1, rfl, by omega, by omega, fun v => ?_⟩⟩⟩⟩
        refine ⟨_, rfl, _, _, rfl, rfl, m0, k _ _ (Int.emod_nonneg v (by omega)) (Int.emod_lt_of_pos v m0) ⟨ncD, hc2, hl, i + 1, n, u + 1, hD2, by omega, by omega, n0, by omega, by omega⟩ fr2⟩
      · have hz0 : ¬ z < 1000000000000000000 := fun q => e3 (decide_eq_true (by rw [pow18]; exact q))
        refine ⟨_, rfl, _, rfl, ixL hD2 rfl ⟨_, _, rfl, rfl, ixL hc2 (by rw [ei]; exact hz) ⟨_, rfl, D, _, _, 2, rfl, rfl, hD2, rfl, ?_⟩⟩⟩
        exact rest (i + 1) z _ _ _ (by omega) (by omega) (by omega) updS (updN ncD hc2) fun b nb => updN nb (fr2 b nb)
    refine ⟨_, rfl, ixL hD1 rfl ⟨_, _, rfl, rfl, _, rfl, D, _, _, 1, rfl, rfl, hD1, rfl, ?_⟩⟩
    exact inn _ updS (updN ncD hc1) fun b nb => updN nb (fr1 b nb)
  -- cells = deck[0]; deck[3] = deck[3] + 1
  refine ⟨_, rfl, ixL hD rfl ?_⟩
  refine ⟨_, rfl, ixL hD rfl ⟨_, _, rfl, rfl, _, rfl, D, _, _, 3, rfl, rfl, hD, rfl, ?_⟩⟩
  exact mid _ _ _ updS (updN ncD hc) fun b nb => upd_ne nb
/-! ### the same data, kind for kind -/
/-- two values of the same data, at most n deep -/
def SameV (H : Hp) : Nat → V → V → Prop
  | 0, _, _ => False
  | n + 1, x, y => (x = y ∧ (x = .non ∨ (∃ i, x = .int i) ∨ (∃ b, x = .bl b) ∨ ∃ z, x = .str z)) ∨
    ∃ p q xs ys, x = .ref p ∧ y = .ref q ∧ ((H p = some (.lst xs) ∧ H q = some (.lst ys)) ∨ (H p = some (.tup xs) ∧ H q = some (.tup ys))) ∧ xs.length = ys.length ∧ xs.length ≤ 100000 ∧
      ∀ (i : Nat) (a b : V), xs[i]? = some a → ys[i]? = some b → SameV H n a b
theorem SameV.int {H : Hp} {n : Nat} {i j : Int} (e : i = j) : SameV H (n + 1) (.int i) (.int j) := Or.inl ⟨by rw [e], .inr (.inl ⟨i, rfl⟩)⟩
theorem SameV.bl {H : Hp} {n : Nat} {i j : Bool} (e : i = j) : SameV H (n + 1) (.bl i) (.bl j) := Or.inl ⟨by rw [e], .inr (.inr (.inl ⟨i, rfl⟩))⟩
theorem SameV.tup {H : Hp} {n : Nat} {p q : Addr} {xs ys : List V} (h1 : H p = some (.tup xs)) (h2 : H q = some (.tup ys)) (hl : xs.length = ys.length) (hz : xs.length ≤ 100000) (h : ∀ (i : Nat) (a b : V), xs[i]? = some a → ys[i]? = some b → SameV H n a b) : SameV H (n + 1) (.ref p) (.ref q) :=
  Or.inr ⟨p, q, xs, ys, rfl, rfl, .inr ⟨h1, h2⟩, hl, hz, h⟩
theorem SameV.lst {H : Hp} {n : Nat} {p q : Addr} {xs ys : List V} (h1 : H p = some (.lst xs)) (h2 : H q = some (.lst ys)) (hl : xs.length = ys.length) (hz : xs.length ≤ 100000) (h : ∀ (i : Nat) (a b : V), xs[i]? = some a → ys[i]? = some b → SameV H n a b) : SameV H (n + 1) (.ref p) (.ref q) :=
  Or.inr ⟨p, q, xs, ys, rfl, rfl, .inl ⟨h1, h2⟩, hl, hz, h⟩
theorem SameV.ints {H : Hp} {n : Nat} {ns : List Int} : ∀ (i : Nat) (a b : V), (ns.map V.int)[i]? = some a → (ns.map V.int)[i]? = some b → SameV H (n + 1) a b := fun i a b h1 h2 => by
  have e : a = b := Option.some.inj (h1.symm.trans h2)
  rw [List.getElem?_map] at h1
  cases q : ns[i]? with
  | none => rw [q] at h1; cases h1
  | some z => rw [q] at h1; exact Or.inl ⟨e, .inr (.inl ⟨z, (Option.some.inj h1).symm⟩)⟩
def sp_sameN (_ : PySem.W.Frag) (n : Nat) : Sp := fun vs H Q _ => ∃ x y, vs = [x, y] ∧ SameV H n x y ∧ Q (.bl true) H
abbrev sp_l_same (K : PySem.W.Frag) : Sp := sp_sameN K 6
abbrev N_l_same : List Str := ["_law_found", "_law_due", "_law_k"]
def t_l_same_loop (K : PySem.W.Frag) (n : Nat) : TS := (tSeq (tIfS (tTest (tOp rNe (tCB (fLen K) (tCons (tVar 0) tNil)) (tCB (fLen K) (tCons (tVar 1) tNil)))) (tRet (tC (.bl false))) tNext)
    (tSeq (tFor (iRng1 (tCons (tCB (fLen K) (tCons (tVar 1) tNil)) tNil)) (gName 2) (tIfS (tNot (tB (tCall (sp_sameN K n) [] E0 (tCons (tOp (rIx K) (tVar 0) (tVar 2)) (tCons (tOp (rIx K) (tVar 1) (tVar 2)) tNil))))) (tRet (tC (.bl false))) tNext))
    (tRet (tC (.bl true)))))
def t_l_same_tail (K : PySem.W.Frag) (n : Nat) : TS := (tSeq (tIfS (tB (tCB (rIsi K) (tCons (tVar 1) (tCons (tC (.ty "bool")) tNil)))) (tRet (tAndV (tCB (rIsi K) (tCons (tVar 0) (tCons (tC (.ty "bool")) tNil))) (tOp rEq (tVar 0) (tVar 1)))) tNext)
    (tSeq (tIfS (tB (tCB (rIsi K) (tCons (tVar 1) (tCons (tC (.ty "int")) tNil)))) (tRet (tAndV (tCall (sp_l_int K) [] E0 (tCons (tVar 0) tNil)) (tOp rEq (tVar 0) (tVar 1)))) tNext)
    (tSeq (tIfS (tB (tCB (rIsi K) (tCons (tVar 1) (tCons (tC (.ty "str")) tNil)))) (tRet (tAndV (tCB (rIsi K) (tCons (tVar 0) (tCons (tC (.ty "str")) tNil))) (tOp rEq (tVar 0) (tVar 1)))) tNext)
    (tRet (tAndV (tOp fIsN (tVar 1) (tC .non)) (tOp fIsN (tVar 0) (tC .non)))))))
def t_l_same (K : PySem.W.Frag) (n : Nat) : TS := (tSeq (tIfS (tOr (tB (tCB (rIsi K) (tCons (tVar 1) (tCons (tC (.ty "tuple")) tNil)))) (tB (tCB (rIsi K) (tCons (tVar 1) (tCons (tC (.ty "list")) tNil))))) (tSeq (tIfS (tOr (tTest (tOp rNe (tCB (rIsi K) (tCons (tVar 1) (tCons (tC (.ty "tuple")) tNil))) (tCB (rIsi K) (tCons (tVar 0) (tCons (tC (.ty "tuple")) tNil))))) (tTest (tOp rNe (tCB (rIsi K) (tCons (tVar 1) (tCons (tC (.ty "list")) tNil))) (tCB (rIsi K) (tCons (tVar 0) (tCons (tC (.ty "list")) tNil)))))) (tRet (tC (.bl false))) tNext)
    (t_l_same_loop K n)) tNext)
    (t_l_same_tail K n))
section
variable {K : PySem.W.Frag} {H : Hp} {x : V} {Q : VK} {σ : L2.St} {c t : String} {b : Bool}
theorem isi (ty : TyX K H x (.type t)) (k : kitB t c = some b) (q : Q (.bl b) H) : tCons (tC (.ty c)) tNil σ H fun ys H2 => rIsi K (x :: ys) H2 Q := ⟨_, _, _, _, b, rfl, .ty _, ty, kit_ty k, q⟩
end
theorem k_it : kitB "int" "tuple" = some false := by decide +kernel
theorem k_il : kitB "int" "list" = some false := by decide +kernel
theorem k_ib : kitB "int" "bool" = some false := by decide +kernel
theorem k_ii : kitB "int" "int" = some true := by decide +kernel
theorem k_bt : kitB "bool" "tuple" = some false := by decide +kernel
theorem k_bl : kitB "bool" "list" = some false := by decide +kernel
theorem k_bb : kitB "bool" "bool" = some true := by decide +kernel
theorem k_bi : kitB "bool" "int" = some true := by decide +kernel
theorem k_st : kitB "str" "tuple" = some false := by decide +kernel
theorem k_sl : kitB "str" "list" = some false := by decide +kernel
theorem k_sb : kitB "str" "bool" = some false := by decide +kernel
theorem k_si : kitB "str" "int" = some false := by decide +kernel
theorem k_ss : kitB "str" "str" = some true := by decide +kernel
theorem k_nt : kitB "NoneType" "tuple" = some false := by decide +kernel
theorem k_nl : kitB "NoneType" "list" = some false := by decide +kernel
theorem k_nb : kitB "NoneType" "bool" = some false := by decide +kernel
theorem k_ni : kitB "NoneType" "int" = some false := by decide +kernel
theorem k_ns : kitB "NoneType" "str" = some false := by decide +kernel
theorem k_tt : kitB "tuple" "tuple" = some true := by decide +kernel
theorem k_tl : kitB "tuple" "list" = some false := by decide +kernel
theorem k_ti : kitB "tuple" "int" = some false := by decide +kernel
theorem k_tb : kitB "tuple" "bool" = some false := by decide +kernel
theorem k_lt : kitB "list" "tuple" = some false := by decide +kernel
theorem k_ll : kitB "list" "list" = some true := by decide +kernel
theorem k_li : kitB "list" "int" = some false := by decide +kernel
theorem k_lb : kitB "list" "bool" = some false := by decide +kernel
theorem len_le {n : Nat} (h : n ≤ 100000) : -(2 ^ 62 : Int) ≤ (n : Int) ∧ (n : Int) < 2 ^ 62 := by
  have e : (2 : Int) ^ 62 = 4611686018427387904 := by decide
  rw [e]
  omega
theorem pure_l_same {K : PySem.W.Frag} {n : Nat} {vs : List V} {H : Hp} {Q : VK} {E : XK} (h : sp_sameN K (n + 1) vs H Q E) : t_l_same K n { nx := fun _ H' => Q .non H', rt := Q } (start N_l_same vs) H := by
  obtain ⟨x, y, rfl, h, k⟩ := h
  rcases h with ⟨rfl, h⟩ | ⟨p, q, xs, ys, rfl, rfl, h, hl, hz, hs⟩
  · rcases h with rfl | ⟨i, rfl⟩ | ⟨b, rfl⟩ | ⟨z, rfl⟩
    · refine ⟨_, rfl, isi (.base .non) k_nt ⟨_, rfl, iteF ⟨_, rfl, isi (.base .non) k_nl ⟨_, rfl, iteF ?_⟩⟩⟩⟩
      refine ⟨_, rfl, isi (.base .non) k_nb ⟨_, rfl, iteF ?_⟩⟩
      refine ⟨_, rfl, isi (.base .non) k_ni ⟨_, rfl, iteF ?_⟩⟩
      refine ⟨_, rfl, isi (.base .non) k_ns ⟨_, rfl, iteF ?_⟩⟩
      exact ⟨_, rfl, rfl, _, rfl, iteT ⟨_, rfl, rfl, k⟩⟩
    · refine ⟨_, rfl, isi (.base (.int i)) k_it ⟨_, rfl, iteF ⟨_, rfl, isi (.base (.int i)) k_il ⟨_, rfl, iteF ?_⟩⟩⟩⟩
      refine ⟨_, rfl, isi (.base (.int i)) k_ib ⟨_, rfl, iteF ?_⟩⟩
      refine ⟨_, rfl, isi (.base (.int i)) k_ii ⟨_, rfl, iteT ?_⟩⟩
      refine ⟨_, rfl, i, rfl, _, rfl, iteT ⟨_, rfl, _, rfl, rfl, ?_⟩⟩
      rw [decide_eq_true rfl]
      exact k
    · refine ⟨_, rfl, isi (.base (.bl b)) k_bt ⟨_, rfl, iteF ⟨_, rfl, isi (.base (.bl b)) k_bl ⟨_, rfl, iteF ?_⟩⟩⟩⟩
      refine ⟨_, rfl, isi (.base (.bl b)) k_bb ⟨_, rfl, iteT ?_⟩⟩
      refine ⟨_, rfl, isi (.base (.bl b)) k_bb ⟨_, rfl, iteT ⟨_, rfl, _, rfl, rfl, ?_⟩⟩⟩
      rw [decide_eq_true rfl]
      exact k
    · refine ⟨_, rfl, isi (.base (.str z)) k_st ⟨_, rfl, iteF ⟨_, rfl, isi (.base (.str z)) k_sl ⟨_, rfl, iteF ?_⟩⟩⟩⟩
      refine ⟨_, rfl, isi (.base (.str z)) k_sb ⟨_, rfl, iteF ?_⟩⟩
      refine ⟨_, rfl, isi (.base (.str z)) k_si ⟨_, rfl, iteF ?_⟩⟩
      refine ⟨_, rfl, isi (.base (.str z)) k_ss ⟨_, rfl, iteT ?_⟩⟩
      refine ⟨_, rfl, isi (.base (.str z)) k_ss ⟨_, rfl, iteT ⟨_, rfl, _, rfl, rfl, ?_⟩⟩⟩
      rw [decide_eq_true rfl]
      exact k
  · -- the loop over both
    have loop : (∃ o, (H p = some o ∧ (o = .lst xs ∨ o = .tup xs))) → (∃ o, (H q = some o ∧ (o = .lst ys ∨ o = .tup ys))) → ∀ z2 : Option V,
        t_l_same_loop K n { nx := t_l_same_tail K n { nx := fun _ H' => Q .non H', rt := Q }, rt := Q } [some (.ref p), some (.ref q), z2] H := by
      intro hp hq z2
      have hlen : ∀ {r : Addr} {zs : List V} {R : VK} {σ : L2.St}, (∃ o, (H r = some o ∧ (o = .lst zs ∨ o = .tup zs))) → R (.int zs.length) H → tNil σ H fun ws H2 => fLen K (.ref r :: ws) H2 R := by
        rintro r zs R σ ⟨o, h1, rfl | rfl⟩ h2
        · exact lenL h1 h2
        · exact lenT h1 h2
      have hix : ∀ {r : Addr} {zs : List V} {R : VK} {i : Int} {v : V}, (∃ o, (H r = some o ∧ (o = .lst zs ∨ o = .tup zs))) → atI zs i = some v → R v H → rIx K (.ref r) (.int i) H R := by
        rintro r zs R i v ⟨o, h1, rfl | rfl⟩ h2 h3
        · exact ixL h1 h2 h3
        · exact ixT h1 h2 h3
      refine ⟨_, rfl, hlen hp ⟨_, rfl, hlen hq ⟨rfl, _, rfl, ?_⟩⟩⟩
      rw [decide_eq_true (show V.int (xs.length : Int) = V.int (ys.length : Int) by rw [hl])]
      refine iteF ?_
      refine ⟨_, rfl, hlen hq ⟨_, rfl, (len_le (by omega)).1, (len_le (by omega)).2, for_range (lo := 0) (n := ((ys.length : Int)).toNat) (fun i σ H' => H' = H ∧ ∃ z, σ = [some (.ref p), some (.ref q), z]) ⟨rfl, _, rfl⟩ ?_ ?_⟩⟩
      · rintro i σ H' hi ⟨rfl, z, rfl⟩
        have hi1 : i < ys.length := by omega
        have hi2 : i < xs.length := by omega
        have e1 : atI xs (0 + (i : Int)) = some xs[i] := by rw [Int.zero_add]; exact atI_nat (List.getElem?_eq_getElem hi2)
        have e2 : atI ys (0 + (i : Int)) = some ys[i] := by rw [Int.zero_add]; exact atI_nat (List.getElem?_eq_getElem hi1)
        refine ⟨_, rfl, _, rfl, hix hp e1 ⟨_, rfl, _, rfl, hix hq e2 ⟨_, _, rfl, hs i _ _ (List.getElem?_eq_getElem hi2) (List.getElem?_eq_getElem hi1), _, rfl, iteF ?_⟩⟩⟩
        exact ⟨rfl, _, rfl⟩
      · rintro σ H' ⟨rfl, z, rfl⟩
        exact k
    rcases h with ⟨h1, h2⟩ | ⟨h1, h2⟩
    · have t1 : TyX K H (.ref p) (.type "list") := .base (.lst h1)
      have t2 : TyX K H (.ref q) (.type "list") := .base (.lst h2)
      refine ⟨_, rfl, isi t2 k_lt ⟨_, rfl, iteF ⟨_, rfl, isi t2 k_ll ⟨_, rfl, iteT ?_⟩⟩⟩⟩
      refine ⟨_, rfl, isi t2 k_lt ⟨_, rfl, isi t1 k_lt ⟨rfl, _, rfl, iteF ⟨_, rfl, isi t2 k_ll ⟨_, rfl, isi t1 k_ll ⟨rfl, _, rfl, iteF ?_⟩⟩⟩⟩⟩⟩
      exact loop ⟨_, h1, .inl rfl⟩ ⟨_, h2, .inl rfl⟩ _
    · have t1 : TyX K H (.ref p) (.type "tuple") := .base (.tup h1)
      have t2 : TyX K H (.ref q) (.type "tuple") := .base (.tup h2)
      refine ⟨_, rfl, isi t2 k_tt ⟨_, rfl, iteT ?_⟩⟩
      refine ⟨_, rfl, isi t2 k_tt ⟨_, rfl, isi t1 k_tt ⟨rfl, _, rfl, iteF ⟨_, rfl, isi t2 k_tl ⟨_, rfl, isi t1 k_tl ⟨rfl, _, rfl, iteF ?_⟩⟩⟩⟩⟩⟩
      exact loop ⟨_, h1, .inr rfl⟩ ⟨_, h2, .inr rfl⟩ _
def sp_law (K : PySem.W.Frag) : Sp := fun vs H Q _ => ∃ (a : Addr) (ns : List Int), vs = [.ref a] ∧ SqL K H a (ns.map V.int) ∧ ns.length ≤ 63 ∧ ∀ H', Q (.bl true) H'
section
variable {K : PySem.W.Frag} {vs : List V} {H : Hp} {Q : VK} {E : XK}
theorem len_law (h : sp_law K vs H Q E) : vs.length = 1 := by
  obtain ⟨_, _, rfl, _⟩ := h
  rfl
theorem len_l_deck (h : sp_l_deck K vs H Q E) : vs.length = 1 := by
  obtain ⟨_, _, rfl, _⟩ := h
  rfl
theorem len_l_mixed (h : sp_l_mixed K vs H Q E) : vs.length = 2 := by
  obtain ⟨_, _, rfl, _⟩ := h
  rfl
theorem len_l_draw (h : sp_l_draw K vs H Q E) : vs.length = 2 := by
  obtain ⟨_, _, _, _, _, rfl, _⟩ := h
  rfl
theorem len_l_int (h : sp_l_int K vs H Q E) : vs.length = 1 := by
  obtain ⟨_, rfl, _⟩ := h
  rfl
theorem len_sameN {n : Nat} (h : sp_sameN K n vs H Q E) : vs.length = 2 := by
  obtain ⟨_, _, rfl, _⟩ := h
  rfl
end
/-! ### comprehensions whose elements change nothing -/
section
variable {K : PySem.W.Frag} {a : Addr} {xs ys : List V} {g : TG} {tt : TT} {te : TE} {vs : List Nat} {σ : L2.St} {H1 : Hp} {D : Addr} {Qd : Hp → Prop}
/-- [e for x in xs], xs a tuple, ys the values in order -/
theorem lc_mapT (hq : ∀ acc, SqT K (upd H1 D (.lst acc)) a xs) (hl : ys.length = xs.length) (hz : xs.length ≤ 100000)
    (hs : ∀ (i : Nat) (x y : V) (acc : List V) (R : VK), xs[i]? = some x → ys[i]? = some y → R y (upd H1 D (.lst acc)) → g x (wipe σ vs) (upd H1 D (.lst acc)) fun σ2 H2 => wipe σ2 vs = wipe σ vs ∧ tt σ2 H2 fun b H3 => if b = true then te σ2 H3 R else False)
    (hd : Qd (upd H1 D (.lst ys))) (mt : ∀ σ H P P', (∀ b H1, P b H1 → P' b H1) → tt σ H P → tt σ H P') (mg : ∀ v σ H P P', (∀ σ1 H1, P σ1 H1 → P' σ1 H1) → g v σ H P → g v σ H P') :
    ∃ W : Nat → Nat → Hp → Prop, (∃ m, W 0 m (upd H1 D (.lst []))) ∧ ∀ i m H, W i m H →
      ((Itt K a).stop i H ∧ Qd H) ∨ ((Itt K a).go i H ∧ ∃ Nx : Hp → Prop, (∀ H', Nx H' → ∃ m', m' < m ∧ W (i + 1) m' H') ∧ ∀ x H', (Itt K a).yld i H x H' → g x (wipe σ vs) H' fun σ2 H2 => wipe σ2 vs = wipe σ vs ∧ tt σ2 H2 fun b H3 =>
        if b = true then te σ2 H3 fun y H4 => ∃ acc, H4 D = some (.lst acc) ∧ acc.length < sizeLine ∧ Nx (upd H4 D (.lst (acc ++ [y]))) else Nx H3) := by
  refine lc_tup (K := K) (a := a) (xs := xs) (fun i H => H = upd H1 D (.lst (ys.take i))) (by rw [List.take_zero]) (fun i H _ e => by rw [e]; exact hq _) (fun i x H hx e => ?_) (fun H e => by
    rw [e, List.take_of_length_le (by omega)]
    exact hd)
  subst e
  have hi : i < ys.length := by
    have := (List.getElem?_eq_some_iff.mp hx).1
    omega
  refine mg _ _ _ _ _ (fun σ1 H2 q => ⟨q.1, mt _ _ _ _ (fun b H3 q2 => ?_) q.2⟩) (hs i x ys[i] (ys.take i) (fun y H4 => ∃ acc, H4 D = some (.lst acc) ∧ acc.length < sizeLine ∧ upd H4 D (.lst (acc ++ [y])) = upd H1 D (.lst (ys.take (i + 1)))) hx (List.getElem?_eq_getElem hi) ⟨ys.take i, upd_same, Nat.lt_of_le_of_lt (by rw [List.length_take]; omega : (ys.take i).length ≤ 100000) (by decide), by rw [upd_upd, List.take_add_one, List.getElem?_eq_getElem hi]; rfl⟩)
  cases b with
  | true => exact q2
  | false => exact q2.elim
theorem lc_mapL (hq : ∀ acc, SqL K (upd H1 D (.lst acc)) a xs) (hl : ys.length = xs.length) (hz : xs.length ≤ 100000)
    (hs : ∀ (i : Nat) (x y : V) (acc : List V) (R : VK), xs[i]? = some x → ys[i]? = some y → R y (upd H1 D (.lst acc)) → g x (wipe σ vs) (upd H1 D (.lst acc)) fun σ2 H2 => wipe σ2 vs = wipe σ vs ∧ tt σ2 H2 fun b H3 => if b = true then te σ2 H3 R else False)
    (hd : Qd (upd H1 D (.lst ys))) (mt : ∀ σ H P P', (∀ b H1, P b H1 → P' b H1) → tt σ H P → tt σ H P') (mg : ∀ v σ H P P', (∀ σ1 H1, P σ1 H1 → P' σ1 H1) → g v σ H P → g v σ H P') :
    ∃ W : Nat → Nat → Hp → Prop, (∃ m, W 0 m (upd H1 D (.lst []))) ∧ ∀ i m H, W i m H →
      ((Itl K a).stop i H ∧ Qd H) ∨ ((Itl K a).go i H ∧ ∃ Nx : Hp → Prop, (∀ H', Nx H' → ∃ m', m' < m ∧ W (i + 1) m' H') ∧ ∀ x H', (Itl K a).yld i H x H' → g x (wipe σ vs) H' fun σ2 H2 => wipe σ2 vs = wipe σ vs ∧ tt σ2 H2 fun b H3 =>
        if b = true then te σ2 H3 fun y H4 => ∃ acc, H4 D = some (.lst acc) ∧ acc.length < sizeLine ∧ Nx (upd H4 D (.lst (acc ++ [y]))) else Nx H3) := by
  refine lc_list (K := K) (a := a) (xs := xs) (fun i H => H = upd H1 D (.lst (ys.take i))) (by rw [List.take_zero]) (fun i H _ e => by rw [e]; exact hq _) (fun i x H hx e => ?_) (fun H e => by
    rw [e, List.take_of_length_le (by omega)]
    exact hd)
  subst e
  have hi : i < ys.length := by
    have := (List.getElem?_eq_some_iff.mp hx).1
    omega
  refine mg _ _ _ _ _ (fun σ1 H2 q => ⟨q.1, mt _ _ _ _ (fun b H3 q2 => ?_) q.2⟩) (hs i x ys[i] (ys.take i) (fun y H4 => ∃ acc, H4 D = some (.lst acc) ∧ acc.length < sizeLine ∧ upd H4 D (.lst (acc ++ [y])) = upd H1 D (.lst (ys.take (i + 1)))) hx (List.getElem?_eq_getElem hi) ⟨ys.take i, upd_same, Nat.lt_of_le_of_lt (by rw [List.length_take]; omega : (ys.take i).length ≤ 100000) (by decide), by rw [upd_upd, List.take_add_one, List.getElem?_eq_getElem hi]; rfl⟩)
  cases b with
  | true => exact q2
  | false => exact q2.elim
theorem mono_yes : ∀ (σ : L2.St) (H : Hp) (P P' : Bool → Hp → Prop), (∀ b H1, P b H1 → P' b H1) → tYes σ H P → tYes σ H P' := fun _ _ _ _ f h => f _ _ h
theorem mono_gName {k : Nat} : ∀ (v : V) (σ : L2.St) (H : Hp) (P P' : L2.St → Hp → Prop), (∀ σ1 H1, P σ1 H1 → P' σ1 H1) → gName k v σ H P → gName k v σ H P' := fun _ _ _ _ _ f h => f _ _ h
end
end Fw

set_option Elab.async false
set_option linter.all false
set_option maxRecDepth 100000
set_option maxHeartbeats 4000000
namespace Fw
open PySem PySem.Spec PyProof.Rows L2
theorem meets_ext (l b : Addr) (xs ys : Array Value) (n m : Nat) (od : Option Addr) (sl : Array (Option Value)) (short : ¬(!xs.isEmpty && Builtin.List.listTooLong (xs.size + ys.size)) = true) (z1 : xs.size ≤ sizeLine) (z2 : xs.size + ys.size ≤ sizeLine + 1) :
    Meets (Builtin.«list.extend» ⟨[.ref l, .ref b], []⟩) (fun _ R s => s.heap.get? l = some ⟨.type "list", none, .seq xs n, #[]⟩ ∧ s.heap.get? b = some ⟨.type "tuple", od, .seq ys m, sl⟩ ∧ R (.ok (.ret Value.none)) { s with heap := s.heap.update l (Obj.mapSeq fun x => x ++ ys), toks := s.toks }) :=
  .of_wp fun prog w A R s h => by
    obtain ⟨hp, g, d, tk, os⟩ := s
    obtain ⟨hl, hb, h⟩ := h
    have f1 := AutoSeq1.idx_int
    have f2 := AutoSeq1.sub_tuple_tuple
    have f3 := AutoSeq1.sub_list_list
    have f4 := AutoSeq1.sub_tuple_list
    have f5 := AutoSeq1.sub_list_tuple
    have hz' : (xs ++ ys).size ≤ sizeLine + 1 := by rw [Array.size_append]; exact z2
    wp_walk using (wpAny_updateSeq hl rfl (hz := z1) (_hz' := hz')), AutoSeq1.wpAny_loadPart' hl, AutoSeq1.wpAny_loadPart' hb
    exact ⟨_, rfl, h⟩
/-- l.extend(b): b another list, or a tuple -/
def rExtendA (K : PySem.W.Frag) : V → List V → Hp → VK → Prop := fun x vs H Q => ∃ (l b : Addr) (xs ys : List V), x = .ref l ∧ vs = [.ref b] ∧ H l = some (.lst xs) ∧ (H b = some (.lst ys) ∨ H b = some (.tup ys)) ∧ xs.length + ys.length ≤ 100000 ∧ Q .non (upd H l (.lst (xs ++ ys)))
theorem mt_extendA {X : Cx} : MtM X "list.extend" (rExtendA X.K) := by
  intro pins s σ H x vs v us Q inv rx rs rd
  obtain ⟨l, b, xs, ys, rfl, rfl, hl, hb, few, q⟩ := rd
  have few2 : xs.length + ys.length ≤ sizeLine := Nat.le_trans few (by decide)
  rcases hb with hb | hb
  · exact mt_extend pins s σ H _ _ v us Q inv rx rs ⟨l, b, xs, ys, rfl, rfl, hl, hb, few2, q⟩
  · cases rx
    obtain ⟨u, rfl, ru⟩ := rs.one
    cases ru
    obtain ⟨_, its, n, r, e0, e⟩ := inv.lstM hl
    obtain ⟨_, its2, r2, o, e2, c2, m, d2⟩ := (show ObjOk X.prog X.w H s.heap b (.tup ys) from inv.hok b _ hb)
    obtain ⟨oc, od, dt, sl⟩ := o
    simp only at c2 d2
    subst c2 d2
    have l2 := r2.length
    have sz : its.toArray.size + its2.toArray.size ≤ sizeLine := by rw [List.size_toArray, List.size_toArray]; omega
    have lng : ¬ (!its.toArray.isEmpty && Builtin.List.listTooLong (its.toArray.size + its2.toArray.size)) = true := by
      rw [notLongL sz, Bool.and_false]
      exact Bool.false_ne_true
    refine call_meets F.slot_list_extend ⟨_, e, rfl⟩ F.entry_list_extend (F.args_list_extend_2 _ _) (meets_ext l b its.toArray its2.toArray n m od sl lng (by rw [List.size_toArray]; omega) (by omega)) ⟨e, e2, ?_⟩
    refine ⟨.non, _, inv.lset (its' := its ++ its2) hl e (by simp) (r.append r2) ?_, rfl, q⟩
    rw [List.length_append]
    omega
end Fw

set_option Elab.async false
set_option linter.all false
set_option maxRecDepth 100000
set_option maxHeartbeats 4000000
namespace Fw
open PySem L2 RZ RT
theorem Dk.upd {c D q : Addr} {ns : List Int} {t : Nat} {H : Hp} {o : HO} (d : Dk c D ns t H) (h1 : q ≠ c) (h2 : q ≠ D) : Dk c D ns t (L2.upd H q o) := by
  obtain ⟨a, b, e, i, n, u, h, r⟩ := d
  exact ⟨a, updN h1.symm b, e, i, n, u, updN h2.symm h, r⟩
theorem Dk.le {c D : Addr} {ns : List Int} {t t' : Nat} {H : Hp} (d : Dk c D ns t H) (h : t ≤ t') : Dk c D ns t' H := by
  obtain ⟨a, b, e, i, n, u, hh, r1, r2, r3, r4, r5⟩ := d
  exact ⟨a, b, e, i, n, u, hh, r1, r2, r3, r4, by omega⟩
theorem Dk.someD {c D : Addr} {ns : List Int} {t : Nat} {H : Hp} (d : Dk c D ns t H) : ∃ xs, H D = some (.lst xs) := by
  obtain ⟨_, _, _, _, _, _, h, _⟩ := d
  exact ⟨_, h⟩
theorem Dk.someC {c D : Addr} {ns : List Int} {t : Nat} {H : Hp} (d : Dk c D ns t H) : ∃ xs, H c = some (.lst xs) := ⟨_, d.2.1⟩
theorem Dk.neD {c D q : Addr} {ns : List Int} {t : Nat} {H : Hp} (d : Dk c D ns t H) (h : H q = none) : q ≠ D := by
  obtain ⟨xs, e⟩ := d.someD
  exact (ne_of_none e h).symm
theorem Dk.neC {c D q : Addr} {ns : List Int} {t : Nat} {H : Hp} (d : Dk c D ns t H) (h : H q = none) : q ≠ c := by
  obtain ⟨xs, e⟩ := d.someC
  exact (ne_of_none e h).symm
/-- all but the deck stands -/
def Kp (D : Addr) (H H' : Hp) : Prop := ∀ b o, H b = some o → b ≠ D → H' b = some o
theorem Kp.refl (D : Addr) (H : Hp) : Kp D H H := fun _ _ e _ => e
theorem Kp.trans {D : Addr} {H H1 H2 : Hp} (a : Kp D H H1) (b : Kp D H1 H2) : Kp D H H2 := fun x o e n => b x o (a x o e n) n
theorem Kp.fr {D : Addr} {H H' : Hp} (f : ∀ b, b ≠ D → H' b = H b) : Kp D H H' := fun b o e n => by rw [f b n]; exact e
theorem Kp.new {D q : Addr} {H : Hp} {o : HO} (n : H q = none) : Kp D H (L2.upd H q o) := fun b u e _ => updN (ne_of_none e n) e
theorem Kp.of_same {D : Addr} {H H' : Hp} (s : Same H H') : Kp D H H' := fun b o e _ => s b o e
theorem Kp.tup {D : Addr} {H H' : Hp} {c : Addr} {ns : List Int} {t : Nat} (k : Kp D H H') (d : Dk c D ns t H) (a : Addr) (xs : List V) (h : H a = some (.tup xs)) : H' a = some (.tup xs) := by
  obtain ⟨ys, e⟩ := d.someD
  exact k a _ h (ne_of h e (by intro z; cases z))
/-- what was free at first, behind what keeps -/
theorem Kp.free {D q : Addr} {H H' : Hp} (k : Kp D H H') (h : H' q = none) (n : q ≠ D) : H q = none := by
  cases e : H q with
  | none => rfl
  | some o => rw [k q o e n] at h; cases h
end Fw

set_option Elab.async false
set_option linter.all false
set_option maxRecDepth 100000
set_option maxHeartbeats 4000000
namespace Fw
open PySem L2 RZ RT
abbrev rLeS : R2 := fun x y H Q => ∃ i j, x = .str i ∧ y = .str j ∧ Q (.bl (!decide (j.cps.toList < i.cps.toList))) H
abbrev rLtS : R2 := fun x y H Q => ∃ i j, x = .str i ∧ y = .str j ∧ Q (.bl (decide (i.cps.toList < j.cps.toList))) H
def fOrd : List V → Hp → VK → Prop := fun xs H Q => ∃ x, xs = [.str x] ∧ x.length = 1 ∧ Q (.int (x.cps.getD 0 0 : Nat)) H
def fJoin (K : PySem.W.Frag) : V → List V → Hp → VK → Prop := fun x xs H Q => ∃ a p, ∃ ys : List Str, x = .str a ∧ xs = [.ref p] ∧ (SqL K H p (ys.map V.str) ∨ SqT K H p (ys.map V.str)) ∧ (ys.map (·.length)).sum + ys.length * a.length ≤ 16777216 ∧ Q (.str (Txt.join a ys)) H
theorem ixS {K : PySem.W.Frag} {H : Hp} {z : Str} {i : Int} {c : Nat} {Q : VK} (hz : z.length ≤ 1000) (ha : atI z.cps.toList i = some c) (q : Q (.str ⟨#[c]⟩) H) : rIx K (.str z) (.int i) H Q := .inr (.inr ⟨z, i, c, rfl, rfl, Nat.le_trans hz (by decide), ha, q⟩)
theorem lenS {K : PySem.W.Frag} {H : Hp} {z : Str} {Q : VK} {σ : L2.St} (hz : z.length ≤ 1000) (q : Q (.int z.length) H) : tNil σ H fun ys H2 => fLen K (.str z :: ys) H2 Q := ⟨_, _, rfl, ⟨Nat.le_trans hz (by decide), rfl⟩, q⟩
theorem Same.upd {H : Hp} {p : Addr} {o : HO} (n : H p = none) : Same H (upd H p o) := fun b u e => updN (ne_of_none e n) e
theorem Same.updI {H H' : Hp} {p : Addr} {o : HO} (s : Same H H') (n : H p = none) : Same H (L2.upd H' p o) := fun b u e => updN (ne_of_none e n) (s b u e)
/-- a comprehension whose elements may make new things, nothing else -/
theorem lc_grow {J : It} {n : Nat} {G : Hp → Prop} {Y : Nat → Hp → V → Hp → Prop} (w : Walk J n G Y) (hY : ∀ i H x H', Y i H x H' → H' = H) {k : Nat} {te : TE} {vs : List Nat} {σ : L2.St} {H1 : Hp} {D : Addr} {Qd : Hp → Prop} {ys : List V}
    (hD : H1 D = none) (hl : ys.length = n) (hz : n ≤ 100000) (hG : ∀ H', Same H1 H' → G H')
    (hs : ∀ (i : Nat) (x y : V) (H' : Hp) (R : VK), i < n → Y i H' x H' → ys[i]? = some y → Same H1 H' → (∀ H'', Same H' H'' → R y H'') → wipe ((wipe σ vs).set k (some x)) vs = wipe σ vs ∧ te ((wipe σ vs).set k (some x)) H' R)
    (hd : ∀ H', Same H1 H' → H' D = some (.lst ys) → Qd H') :
    ∃ W : Nat → Nat → Hp → Prop, (∃ m, W 0 m (L2.upd H1 D (.lst []))) ∧ ∀ i m H, W i m H →
      (J.stop i H ∧ Qd H) ∨ (J.go i H ∧ ∃ Nx : Hp → Prop, (∀ H', Nx H' → ∃ m', m' < m ∧ W (i + 1) m' H') ∧ ∀ x H', J.yld i H x H' → gName k x (wipe σ vs) H' fun σ2 H2 => wipe σ2 vs = wipe σ vs ∧ tYes σ2 H2 fun b H3 =>
        if b = true then te σ2 H3 fun y H4 => ∃ acc, H4 D = some (.lst acc) ∧ acc.length < sizeLine ∧ Nx (L2.upd H4 D (.lst (acc ++ [y]))) else Nx H3) := by
  refine lc_it w (fun i H => Same H1 H ∧ H D = some (.lst (ys.take i))) ⟨Same.upd hD, updS⟩ (fun i H _ p => hG H p.1) (fun i x H H' hi p hy => ?_) (fun H p => hd H p.1 (by rw [p.2, List.take_of_length_le (by omega)]))
  have e := hY i H x H' hy
  subst e
  have hi2 : i < ys.length := by omega
  obtain ⟨q1, q2⟩ := hs i x ys[i] H' (fun y H4 => ∃ acc, H4 D = some (.lst acc) ∧ acc.length < sizeLine ∧ (Same H1 (L2.upd H4 D (.lst (acc ++ [y]))) ∧ L2.upd H4 D (.lst (acc ++ [y])) D = some (.lst (ys.take (i + 1))))) hi hy (List.getElem?_eq_getElem hi2) p.1 (fun H'' s => ⟨_, s _ _ p.2, Nat.lt_of_le_of_lt (by rw [List.length_take]; omega : (ys.take i).length ≤ 100000) (by decide), Same.updI (Same.trans p.1 s) hD, by rw [updS, List.take_add_one, List.getElem?_eq_getElem hi2]; rfl⟩)
  exact ⟨q1, q2⟩
/-- the same where each element draws: what it gives keeps P -/
theorem lc_deck {J : It} {n : Nat} {Y : Nat → Hp → V → Hp → Prop} (w : Walk J n (fun _ => True) Y) (hY : ∀ i H x H', Y i H x H' → H' = H) {α : Type} (f : α → V) (P : α → Prop) (st : Nat) {k : Nat} {te : TE} {vs : List Nat} {σ : L2.St} {H1 : Hp} {L : Addr} {Qd : Hp → Prop} {c D : Addr} {ns : List Int} {t : Nat}
    (hL : H1 L = none) (dk : Dk c D ns t H1) (hz : n ≤ 100000)
    (hs : ∀ (i : Nat) (x : V) (H' : Hp) (R : VK), i < n → Kp D H1 H' → Dk c D ns (t + st * i) H' → (∀ y H'', P y → Kp D H' H'' → Dk c D ns (t + st * i + st) H'' → R (f y) H'') → wipe ((wipe σ vs).set k (some x)) vs = wipe σ vs ∧ te ((wipe σ vs).set k (some x)) H' R)
    (hd : ∀ (ys : List α) (H' : Hp), ys.length = n → (∀ y ∈ ys, P y) → Kp D H1 H' → Dk c D ns (t + st * n) H' → H' L = some (.lst (ys.map f)) → Qd H') :
    ∃ W : Nat → Nat → Hp → Prop, (∃ m, W 0 m (L2.upd H1 L (.lst []))) ∧ ∀ i m H, W i m H →
      (J.stop i H ∧ Qd H) ∨ (J.go i H ∧ ∃ Nx : Hp → Prop, (∀ H', Nx H' → ∃ m', m' < m ∧ W (i + 1) m' H') ∧ ∀ x H', J.yld i H x H' → gName k x (wipe σ vs) H' fun σ2 H2 => wipe σ2 vs = wipe σ vs ∧ tYes σ2 H2 fun b H3 =>
        if b = true then te σ2 H3 fun y H4 => ∃ acc, H4 L = some (.lst acc) ∧ acc.length < sizeLine ∧ Nx (L2.upd H4 L (.lst (acc ++ [y]))) else Nx H3) := by
  have nLD : L ≠ D := dk.neD hL
  have nLC : L ≠ c := dk.neC hL
  refine lc_it w (fun i H => ∃ ys : List α, ys.length = i ∧ (∀ y ∈ ys, P y) ∧ Kp D H1 H ∧ Dk c D ns (t + st * i) H ∧ H L = some (.lst (ys.map f))) ⟨[], rfl, (fun _ h => by cases h), .new hL, dk.upd nLC nLD, updS⟩ (fun _ _ _ _ => True.intro) ?_ ?_
  · rintro i x H H' hi ⟨ys, hl, hp, kp, dk2, hLs⟩ hy
    have e := hY i H x H' hy
    subst e
    obtain ⟨q1, q2⟩ := hs i x H' (fun y H4 => ∃ acc, H4 L = some (.lst acc) ∧ acc.length < sizeLine ∧ ∃ ys : List α, ys.length = i + 1 ∧ (∀ y ∈ ys, P y) ∧ Kp D H1 (L2.upd H4 L (.lst (acc ++ [y]))) ∧ Dk c D ns (t + st * (i + 1)) (L2.upd H4 L (.lst (acc ++ [y]))) ∧ L2.upd H4 L (.lst (acc ++ [y])) L = some (.lst (ys.map f))) hi kp dk2 (fun y H'' py k2 d2 => by
      refine ⟨_, k2 _ _ hLs nLD, Nat.lt_of_le_of_lt (by rw [List.length_map]; omega : (ys.map f).length ≤ 100000) (by decide), ys ++ [y], by rw [List.length_append, hl]; rfl, fun z hz2 => ?_, fun b o e n => updN (ne_of_none e hL) ((kp.trans k2) b o e n), ?_, by rw [updS, List.map_append]; rfl⟩
      · rcases List.mem_append.mp hz2 with h | h
        · exact hp z h
        · cases List.mem_singleton.mp h
          exact py
      · have e2 : t + st * (i + 1) = t + st * i + st := by rw [Nat.mul_add, Nat.mul_one, Nat.add_assoc]
        rw [e2]
        exact d2.upd nLC nLD)
    exact ⟨q1, q2⟩
  · rintro H ⟨ys, hl, hp, kp, dk2, hLs⟩
    exact hd ys H hl hp kp dk2 hLs
/-! ### the same data, where looking makes new things -/
theorem SameV.mono {H H' : Hp} (s : Same H H') : ∀ {n : Nat} {x y : V}, SameV H n x y → SameV H' n x y
  | 0, _, _, h => h
  | n + 1, x, y, h => by
    rcases h with h | ⟨p, q, xs, ys, rfl, rfl, h, hl, hz, hs⟩
    · exact .inl h
    · refine .inr ⟨p, q, xs, ys, rfl, rfl, h.imp (fun h => ⟨s _ _ h.1, s _ _ h.2⟩) (fun h => ⟨s _ _ h.1, s _ _ h.2⟩), hl, hz, fun i a b h1 h2 => (hs i a b h1 h2).mono s⟩
theorem SameV.strs {H : Hp} {n : Nat} {zs : List Str} : ∀ (i : Nat) (a b : V), (zs.map V.str)[i]? = some a → (zs.map V.str)[i]? = some b → SameV H (n + 1) a b := fun i a b h1 h2 => by
  have e : a = b := Option.some.inj (h1.symm.trans h2)
  rw [List.getElem?_map] at h1
  cases q : zs[i]? with
  | none => rw [q] at h1; cases h1
  | some z => rw [q] at h1; exact Or.inl ⟨e, .inr (.inr (.inr ⟨z, (Option.some.inj h1).symm⟩))⟩
def sp_same2N (_ : PySem.W.Frag) (n : Nat) : Sp := fun vs H Q _ => ∃ x y, vs = [x, y] ∧ SameV H n x y ∧ ∀ H', Same H H' → Q (.bl true) H'
abbrev sp_l_same2 (K : PySem.W.Frag) : Sp := sp_same2N K 6
theorem len_same2N {K : PySem.W.Frag} {vs : List V} {H : Hp} {Q : VK} {E : XK} {n : Nat} (h : sp_same2N K n vs H Q E) : vs.length = 2 := by
  obtain ⟨_, _, rfl, _⟩ := h
  rfl
def t_l_same2_loop (K : PySem.W.Frag) (n : Nat) : TS := (tSeq (tIfS (tTest (tOp rNe (tCB (fLen K) (tCons (tVar 0) tNil)) (tCB (fLen K) (tCons (tVar 1) tNil)))) (tRet (tC (.bl false))) tNext)
    (tSeq (tFor (iRng1 (tCons (tCB (fLen K) (tCons (tVar 1) tNil)) tNil)) (gName 2) (tIfS (tNot (tB (tCall (sp_same2N K n) [] E0 (tCons (tOp (rIx K) (tVar 0) (tVar 2)) (tCons (tOp (rIx K) (tVar 1) (tVar 2)) tNil))))) (tRet (tC (.bl false))) tNext))
    (tRet (tC (.bl true)))))
def t_l_same2_tail (K : PySem.W.Frag) (n : Nat) : TS := (tSeq (tIfS (tB (tCB (rIsi K) (tCons (tVar 1) (tCons (tC (.ty "dict")) tNil)))) tNever tNext)
    (tSeq (tIfS (tB (tCB (rIsi K) (tCons (tVar 1) (tCons (tC (.ty "bool")) tNil)))) (tRet (tAndV (tCB (rIsi K) (tCons (tVar 0) (tCons (tC (.ty "bool")) tNil))) (tOp rEq (tVar 0) (tVar 1)))) tNext)
    (tSeq (tIfS (tB (tCB (rIsi K) (tCons (tVar 1) (tCons (tC (.ty "int")) tNil)))) (tRet (tAndV (tCall (sp_l_int K) [] E0 (tCons (tVar 0) tNil)) (tOp rEq (tVar 0) (tVar 1)))) tNext)
    (tSeq (tIfS (tB (tCB (rIsi K) (tCons (tVar 1) (tCons (tC (.ty "str")) tNil)))) (tRet (tAndV (tCB (rIsi K) (tCons (tVar 0) (tCons (tC (.ty "str")) tNil))) (tOp rEq (tVar 0) (tVar 1)))) tNext)
    (tRet (tAndV (tOp fIsN (tVar 1) (tC .non)) (tOp fIsN (tVar 0) (tC .non))))))))
def t_l_same2 (K : PySem.W.Frag) (n : Nat) : TS := (tSeq (tIfS (tB (tCB (rIsiT K) (tCons (tVar 1) (tCons (tTup (tCons (tC (.ty "tuple")) (tCons (tC (.ty "list")) tNil))) tNil)))) (tSeq (tIfS (tOr (tTest (tOp rNe (tCB (rIsi K) (tCons (tVar 1) (tCons (tC (.ty "tuple")) tNil))) (tCB (rIsi K) (tCons (tVar 0) (tCons (tC (.ty "tuple")) tNil))))) (tTest (tOp rNe (tCB (rIsi K) (tCons (tVar 1) (tCons (tC (.ty "list")) tNil))) (tCB (rIsi K) (tCons (tVar 0) (tCons (tC (.ty "list")) tNil)))))) (tRet (tC (.bl false))) tNext)
    (t_l_same2_loop K n)) tNext)
    (t_l_same2_tail K n))
section
variable {K : PySem.W.Frag} {H : Hp} {x : V} {Q : VK} {σ : L2.St} {t : String} {b : Bool}
/-- isinstance(x, (tuple, list)) -/
theorem isi2 (ty : ∀ H', Same H H' → TyX K H' x (.type t)) {b1 b2 : Bool} (k1 : kitB t "tuple" = some b1) (k2 : kitB t "list" = some b2) (q : ∀ T, H T = none → Q (.bl (b1 || b2)) (upd H T (.tup [.ty "tuple", .ty "list"]))) :
    tCons (tTup (tCons (tC (.ty "tuple")) (tCons (tC (.ty "list")) tNil))) tNil σ H fun ys H2 => rIsiT K (x :: ys) H2 Q := by
  refine ⟨by show (2 : Nat) ≤ sizeLine; decide, fun T nT => ⟨x, T, _, _, [.type "tuple", .type "list"], (b1 || b2), rfl, updS, .cons (.ty _) (.cons (.ty _) .nil), ty _ (Same.upd nT), ?_, q T nT⟩⟩
  refine kitAny_cons (kit_ty k1) (fun e => ?_) (fun e => by rw [e]; rfl)
  subst e
  exact kitAny_cons (kit_ty k2) (fun e => by subst e; exact kitAny_nil) (fun e => by rw [e]; rfl)
end
theorem k_id : kitB "int" "dict" = some false := by decide +kernel
theorem k_bd : kitB "bool" "dict" = some false := by decide +kernel
theorem k_sd : kitB "str" "dict" = some false := by decide +kernel
theorem k_nd : kitB "NoneType" "dict" = some false := by decide +kernel
theorem pure_l_same2 {K : PySem.W.Frag} {n : Nat} {vs : List V} {H : Hp} {Q : VK} {E : XK} (h : sp_same2N K (n + 1) vs H Q E) : t_l_same2 K n { nx := fun _ H' => Q .non H', rt := Q } (start N_l_same vs) H := by
  obtain ⟨x, y, rfl, h, k⟩ := h
  rcases h with ⟨rfl, h⟩ | ⟨p, q, xs, ys, rfl, rfl, h, hl, hz, hs⟩
  · rcases h with rfl | ⟨i, rfl⟩ | ⟨b, rfl⟩ | ⟨z, rfl⟩
    · refine ⟨_, rfl, isi2 (fun _ _ => .base .non) k_nt k_nl fun T nT => ⟨_, rfl, iteF ?_⟩⟩
      refine ⟨_, rfl, isi (.base .non) k_nd ⟨_, rfl, iteF ?_⟩⟩
      refine ⟨_, rfl, isi (.base .non) k_nb ⟨_, rfl, iteF ?_⟩⟩
      refine ⟨_, rfl, isi (.base .non) k_ni ⟨_, rfl, iteF ?_⟩⟩
      refine ⟨_, rfl, isi (.base .non) k_ns ⟨_, rfl, iteF ?_⟩⟩
      exact ⟨_, rfl, rfl, _, rfl, iteT ⟨_, rfl, rfl, k _ (Same.upd nT)⟩⟩
    · refine ⟨_, rfl, isi2 (fun _ _ => .base (.int i)) k_it k_il fun T nT => ⟨_, rfl, iteF ?_⟩⟩
      refine ⟨_, rfl, isi (.base (.int i)) k_id ⟨_, rfl, iteF ?_⟩⟩
      refine ⟨_, rfl, isi (.base (.int i)) k_ib ⟨_, rfl, iteF ?_⟩⟩
      refine ⟨_, rfl, isi (.base (.int i)) k_ii ⟨_, rfl, iteT ?_⟩⟩
      refine ⟨_, rfl, i, rfl, _, rfl, iteT ⟨_, rfl, _, rfl, rfl, ?_⟩⟩
      rw [decide_eq_true rfl]
      exact k _ (Same.upd nT)
    · refine ⟨_, rfl, isi2 (fun _ _ => .base (.bl b)) k_bt k_bl fun T nT => ⟨_, rfl, iteF ?_⟩⟩
      refine ⟨_, rfl, isi (.base (.bl b)) k_bd ⟨_, rfl, iteF ?_⟩⟩
      refine ⟨_, rfl, isi (.base (.bl b)) k_bb ⟨_, rfl, iteT ?_⟩⟩
      refine ⟨_, rfl, isi (.base (.bl b)) k_bb ⟨_, rfl, iteT ⟨_, rfl, _, rfl, rfl, ?_⟩⟩⟩
      rw [decide_eq_true rfl]
      exact k _ (Same.upd nT)
    · refine ⟨_, rfl, isi2 (fun _ _ => .base (.str z)) k_st k_sl fun T nT => ⟨_, rfl, iteF ?_⟩⟩
      refine ⟨_, rfl, isi (.base (.str z)) k_sd ⟨_, rfl, iteF ?_⟩⟩
      refine ⟨_, rfl, isi (.base (.str z)) k_sb ⟨_, rfl, iteF ?_⟩⟩
      refine ⟨_, rfl, isi (.base (.str z)) k_si ⟨_, rfl, iteF ?_⟩⟩
      refine ⟨_, rfl, isi (.base (.str z)) k_ss ⟨_, rfl, iteT ?_⟩⟩
      refine ⟨_, rfl, isi (.base (.str z)) k_ss ⟨_, rfl, iteT ⟨_, rfl, _, rfl, rfl, ?_⟩⟩⟩
      rw [decide_eq_true rfl]
      exact k _ (Same.upd nT)
  · have loop : ∀ H0 : Hp, Same H H0 → (∃ o, (H p = some o ∧ (o = .lst xs ∨ o = .tup xs))) → (∃ o, (H q = some o ∧ (o = .lst ys ∨ o = .tup ys))) → ∀ z2 : Option V,
        t_l_same2_loop K n { nx := t_l_same2_tail K n { nx := fun _ H' => Q .non H', rt := Q }, rt := Q } [some (.ref p), some (.ref q), z2] H0 := by
      intro H0 s0 hp hq z2
      have hlen : ∀ {r : Addr} {zs : List V} {R : VK} {σ : L2.St} {H1 : Hp}, (∃ o, (H r = some o ∧ (o = .lst zs ∨ o = .tup zs))) → Same H H1 → R (.int zs.length) H1 → tNil σ H1 fun ws H2 => fLen K (.ref r :: ws) H2 R := by
        rintro r zs R σ H1 ⟨o, h1, rfl | rfl⟩ s h2
        · exact lenL (s _ _ h1) h2
        · exact lenT (s _ _ h1) h2
      have hix : ∀ {r : Addr} {zs : List V} {R : VK} {i : Int} {v : V} {H1 : Hp}, (∃ o, (H r = some o ∧ (o = .lst zs ∨ o = .tup zs))) → Same H H1 → atI zs i = some v → R v H1 → rIx K (.ref r) (.int i) H1 R := by
        rintro r zs R i v H1 ⟨o, h1, rfl | rfl⟩ s h2 h3
        · exact ixL (s _ _ h1) h2 h3
        · exact ixT (s _ _ h1) h2 h3
      refine ⟨_, rfl, hlen hp s0 ⟨_, rfl, hlen hq s0 ⟨rfl, _, rfl, ?_⟩⟩⟩
      rw [decide_eq_true (show V.int (xs.length : Int) = V.int (ys.length : Int) by rw [hl])]
      refine iteF ?_
      refine ⟨_, rfl, hlen hq s0 ⟨_, rfl, (len_le (by omega)).1, (len_le (by omega)).2, for_range (lo := 0) (n := ((ys.length : Int)).toNat) (fun i σ H' => Same H H' ∧ ∃ z, σ = [some (.ref p), some (.ref q), z]) ⟨s0, _, rfl⟩ ?_ ?_⟩⟩
      · rintro i σ H' hi ⟨s1, z, rfl⟩
        have hi1 : i < ys.length := by omega
        have hi2 : i < xs.length := by omega
        have e1 : atI xs (0 + (i : Int)) = some xs[i] := by rw [Int.zero_add]; exact atI_nat (List.getElem?_eq_getElem hi2)
        have e2 : atI ys (0 + (i : Int)) = some ys[i] := by rw [Int.zero_add]; exact atI_nat (List.getElem?_eq_getElem hi1)
        refine ⟨_, rfl, _, rfl, hix hp s1 e1 ⟨_, rfl, _, rfl, hix hq s1 e2 ⟨_, _, rfl, (hs i _ _ (List.getElem?_eq_getElem hi2) (List.getElem?_eq_getElem hi1)).mono s1, fun H2 s2 => ⟨_, rfl, iteF ?_⟩⟩⟩⟩
        exact ⟨s1.trans s2, _, rfl⟩
      · rintro σ H' ⟨s1, z, rfl⟩
        exact k _ s1
    rcases h with ⟨h1, h2⟩ | ⟨h1, h2⟩
    · have t1 : ∀ H', Same H H' → TyX K H' (.ref p) (.type "list") := fun H' s => .base (.lst (s _ _ h1))
      have t2 : ∀ H', Same H H' → TyX K H' (.ref q) (.type "list") := fun H' s => .base (.lst (s _ _ h2))
      refine ⟨_, rfl, isi2 t2 k_lt k_ll fun T nT => ⟨_, rfl, iteT ?_⟩⟩
      have s0 : Same H (upd H T (.tup [.ty "tuple", .ty "list"])) := Same.upd nT
      refine ⟨_, rfl, isi (t2 _ s0) k_lt ⟨_, rfl, isi (t1 _ s0) k_lt ⟨rfl, _, rfl, iteF ⟨_, rfl, isi (t2 _ s0) k_ll ⟨_, rfl, isi (t1 _ s0) k_ll ⟨rfl, _, rfl, iteF ?_⟩⟩⟩⟩⟩⟩
      exact loop _ s0 ⟨_, h1, .inl rfl⟩ ⟨_, h2, .inl rfl⟩ _
    · have t1 : ∀ H', Same H H' → TyX K H' (.ref p) (.type "tuple") := fun H' s => .base (.tup (s _ _ h1))
      have t2 : ∀ H', Same H H' → TyX K H' (.ref q) (.type "tuple") := fun H' s => .base (.tup (s _ _ h2))
      refine ⟨_, rfl, isi2 t2 k_tt k_tl fun T nT => ⟨_, rfl, iteT ?_⟩⟩
      have s0 : Same H (upd H T (.tup [.ty "tuple", .ty "list"])) := Same.upd nT
      refine ⟨_, rfl, isi (t2 _ s0) k_tt ⟨_, rfl, isi (t1 _ s0) k_tt ⟨rfl, _, rfl, iteF ⟨_, rfl, isi (t2 _ s0) k_tl ⟨_, rfl, isi (t1 _ s0) k_tl ⟨rfl, _, rfl, iteF ?_⟩⟩⟩⟩⟩⟩
      exact loop _ s0 ⟨_, h1, .inr rfl⟩ ⟨_, h2, .inr rfl⟩ _
end Fw

set_option Elab.async false
set_option linter.all false
set_option maxRecDepth 100000
set_option maxHeartbeats 4000000
namespace Fw
open PySem L2 RZ RT
/-! ### rows, pieces, scripts -/
def OkC (c : Nat) : Prop := 32 ≤ c ∧ c ≤ 126 ∧ c ≠ 37
def OkS (z : Str) : Prop := z.cps.size ≤ 40 ∧ ∀ c ∈ z.cps.toList, OkC c
inductive Pc where
  | take (b m : Nat)
  | put (rs : List Str)
def Pc.n : Pc → Nat
  | .take _ m => m
  | .put rs => rs.length
def Pc.ok : Pc → Prop
  | .take _ m => 1 ≤ m
  | .put rs => rs ≠ [] ∧ ∀ z ∈ rs, OkS z
def Pc.fits (L : Nat) : Pc → Prop
  | .take b m => b + m ≤ L
  | .put _ => True
def Pc.mk (bs : List Str) : Pc → List Str
  | .take b m => (bs.drop b).take m
  | .put rs => rs
def Pc.cost (t p : Int) : Pc → Int
  | .take _ _ => t
  | .put rs => p * (rs.length : Int)
def total (ps : List Pc) : Nat := (ps.map Pc.n).sum
def makes (bs : List Str) (ps : List Pc) : List Str := (ps.map (Pc.mk bs)).flatten
def cost (t p : Int) (ps : List Pc) : Int := (ps.map (Pc.cost t p)).sum
structure ScOk (ps : List Pc) : Prop where
  ok : ∀ p ∈ ps, p.ok
  few : total ps ≤ 40
theorem Pc.one {p : Pc} (h : p.ok) : 1 ≤ p.n := by
  cases p with
  | take b m => exact h
  | put rs => exact List.length_pos_iff.mpr h.1
theorem len_le_total : ∀ {ps : List Pc}, (∀ p ∈ ps, p.ok) → ps.length ≤ total ps
  | [], _ => Nat.le_refl _
  | p :: ps, h => by
    have a := len_le_total (ps := ps) fun q hq => h q (List.mem_cons_of_mem _ hq)
    have b := Pc.one (h p (List.mem_cons_self ..))
    show ps.length + 1 ≤ p.n + (ps.map Pc.n).sum
    have e : total ps = (ps.map Pc.n).sum := rfl
    omega
theorem ScOk.len {ps : List Pc} (h : ScOk ps) : ps.length ≤ 40 := Nat.le_trans (len_le_total h.ok) h.few
theorem n_le_total : ∀ {ps : List Pc} {p : Pc}, p ∈ ps → p.n ≤ total ps
  | q :: ps, p, h => by
    have e : total (q :: ps) = q.n + total ps := rfl
    rcases List.mem_cons.mp h with h | h
    · rw [h, e]; omega
    · have := n_le_total h
      omega
theorem mk_len {bs : List Str} {p : Pc} (h : p.fits bs.length) : (p.mk bs).length = p.n := by
  cases p with
  | take b m =>
    show ((bs.drop b).take m).length = m
    have h : b + m ≤ bs.length := h
    rw [List.length_take, List.length_drop]
    omega
  | put rs => rfl
theorem makes_len {bs : List Str} : ∀ {ps : List Pc}, (∀ p ∈ ps, p.fits bs.length) → (makes bs ps).length = total ps
  | [], _ => rfl
  | p :: ps, h => by
    show (p.mk bs ++ makes bs ps).length = p.n + total ps
    rw [List.length_append, mk_len (h p (List.mem_cons_self ..)), makes_len fun q hq => h q (List.mem_cons_of_mem _ hq)]
/-! ### as they stand in the heap -/
def TM (H H' : Hp) : Prop := ∀ (a : Addr) (xs : List V), H a = some (.tup xs) → H' a = some (.tup xs)
theorem TM.of {H H' : Hp} (s : Same H H') : TM H H' := fun a xs h => s _ _ h
theorem TM.trans {H H1 H2 : Hp} (a : TM H H1) (b : TM H1 H2) : TM H H2 := fun x xs h => b _ _ (a _ _ h)
theorem Kp.tm {D : Addr} {H H' : Hp} {c : Addr} {ns : List Int} {t : Nat} (k : Kp D H H') (d : Dk c D ns t H) : TM H H' := fun a xs h => k.tup d a xs h
def RwAt (H : Hp) (a : Addr) (rs : List Str) : Prop := H a = some (.tup (rs.map V.str))
def PcAt (H : Hp) (a : Addr) : Pc → Prop
  | .take b m => H a = some (.tup [.str "take", .int (b : Int), .int (m : Int)])
  | .put rs => ∃ r, H a = some (.tup [.str "put", .ref r]) ∧ RwAt H r rs
theorem PcAt.mono {H H' : Hp} {a : Addr} {p : Pc} (h : PcAt H a p) (s : TM H H') : PcAt H' a p := by
  cases p with
  | take b m => exact s _ _ h
  | put rs =>
    obtain ⟨r, h1, h2⟩ := h
    exact ⟨r, s _ _ h1, s _ _ h2⟩
/-- the pieces at these addresses -/
def PsAt (H : Hp) (as : List Addr) (ps : List Pc) : Prop := as.length = ps.length ∧ ∀ (i : Nat) (a : Addr) (p : Pc), as[i]? = some a → ps[i]? = some p → PcAt H a p
theorem PsAt.mono {H H' : Hp} {as : List Addr} {ps : List Pc} (h : PsAt H as ps) (s : TM H H') : PsAt H' as ps := ⟨h.1, fun i a p h1 h2 => (h.2 i a p h1 h2).mono s⟩
theorem PsAt.nil {H : Hp} : PsAt H [] [] := ⟨rfl, fun i a p h => by cases h⟩
theorem PsAt.snoc {H : Hp} {as : List Addr} {ps : List Pc} {T : Addr} {p : Pc} (h : PsAt H as ps) (hT : PcAt H T p) : PsAt H (as ++ [T]) (ps ++ [p]) := by
  refine ⟨by rw [List.length_append, List.length_append, h.1]; rfl, fun i a m h1 h2 => ?_⟩
  by_cases hi : i < as.length
  · rw [List.getElem?_append_left hi] at h1
    rw [List.getElem?_append_left (by rw [← h.1]; exact hi)] at h2
    exact h.2 i a m h1 h2
  · have hi2 : i < (as ++ [T]).length := (List.getElem?_eq_some_iff.mp h1).1
    rw [List.length_append, List.length_singleton] at hi2
    have e : i = as.length := by omega
    rw [List.getElem?_append_right (by omega), e, Nat.sub_self] at h1
    rw [List.getElem?_append_right (by rw [← h.1]; omega), e, h.1, Nat.sub_self] at h2
    cases Option.some.inj h1
    cases Option.some.inj h2
    exact hT
def ScAt (H : Hp) (s : Addr) (ps : List Pc) : Prop := ∃ as : List Addr, H s = some (.tup (as.map V.ref)) ∧ PsAt H as ps
theorem ScAt.mono {H H' : Hp} {s : Addr} {ps : List Pc} (h : ScAt H s ps) (m : TM H H') : ScAt H' s ps := by
  obtain ⟨as, h1, h2⟩ := h
  exact ⟨as, m _ _ h1, h2.mono m⟩
/-- the i-th value of a script's tuple -/
theorem sc_get {as : List Addr} {ps : List Pc} {H : Hp} {i : Nat} {x : V} (h : PsAt H as ps) (hx : (as.map V.ref)[i]? = some x) : ∃ a p, x = .ref a ∧ as[i]? = some a ∧ ps[i]? = some p ∧ PcAt H a p := by
  rw [List.getElem?_map] at hx
  cases q : as[i]? with
  | none => rw [q] at hx; cases hx
  | some a =>
    rw [q] at hx
    have hi : i < ps.length := by rw [← h.1]; exact (List.getElem?_eq_some_iff.mp q).1
    exact ⟨a, ps[i], (Option.some.inj hx).symm, rfl, List.getElem?_eq_getElem hi, h.2 i a _ q (List.getElem?_eq_getElem hi)⟩
theorem put_take : decide (V.str "put" = V.str "take") = false := decide_eq_false (by intro h; injection h with h; exact absurd h (by decide +kernel))
theorem take_put : decide (V.str "take" = V.str "put") = false := decide_eq_false (by intro h; injection h with h; exact absurd h (by decide +kernel))
/-- the word of a piece, its other parts -/
theorem PcAt.word {K : PySem.W.Frag} {H : Hp} {a : Addr} {p : Pc} {Q : VK} (h : PcAt H a p) (ht : ∀ b m, p = .take b m → Q (.str "take") H) (hp : ∀ rs, p = .put rs → Q (.str "put") H) : rIx K (.ref a) (.int 0) H Q := by
  cases p with
  | take b m => exact ixT h rfl (ht b m rfl)
  | put rs => obtain ⟨r, h1, h2⟩ := h; exact ixT h1 rfl (hp rs rfl)
/-! ### forms of texts -/
def sp_is_sign (_ : PySem.W.Frag) : Sp := fun vs H Q _ => ∃ c : Nat, vs = [.str ⟨#[c]⟩] ∧ OkC c ∧ Q (.bl true) H
def sp_is_text (_ : PySem.W.Frag) : Sp := fun vs H Q _ => ∃ z : Str, vs = [.str z] ∧ OkS z ∧ ∀ H', Same H H' → Q (.bl true) H'
def sp_is_row (_ : PySem.W.Frag) : Sp := fun vs H Q _ => ∃ z : Str, vs = [.str z] ∧ OkS z ∧ ∀ H', Same H H' → Q (.bl true) H'
def sp_is_intI (_ : PySem.W.Frag) : Sp := fun vs H Q _ => ∃ i : Int, vs = [.int i] ∧ Q (.bl true) H
def sp_is_pairT (_ : PySem.W.Frag) : Sp := fun vs H Q _ => ∃ (a : Addr) (x y : V), vs = [.ref a] ∧ H a = some (.tup [x, y]) ∧ Q (.bl true) H
def sp_are_put (_ : PySem.W.Frag) : Sp := fun vs H Q _ => ∃ (a : Addr) (rs : List Str), vs = [.ref a] ∧ RwAt H a rs ∧ rs ≠ [] ∧ rs.length ≤ 1000 ∧ (∀ z ∈ rs, OkS z) ∧ ∀ H', Same H H' → Q (.bl true) H'
def sp_rows_in (_ : PySem.W.Frag) : Sp := fun vs H Q _ => ∃ (a : Addr) (p : Pc), vs = [.ref a] ∧ PcAt H a p ∧ Q (.int (p.n : Int)) H
def sp_is_piece (_ : PySem.W.Frag) : Sp := fun vs H Q _ => ∃ (a : Addr) (p : Pc), vs = [.ref a] ∧ PcAt H a p ∧ p.ok ∧ p.n ≤ 1000 ∧ ∀ H', Same H H' → Q (.bl true) H'
def sp_is_script (_ : PySem.W.Frag) : Sp := fun vs H Q _ => ∃ (a : Addr) (ps : List Pc), vs = [.ref a] ∧ ScAt H a ps ∧ ScOk ps ∧ ∀ H', Same H H' → Q (.bl true) H'
def sp_is_right_over (_ : PySem.W.Frag) : Sp := fun vs H Q _ => ∃ (B a : Addr) (bs : List Str) (ps : List Pc), vs = [.ref B, .ref a] ∧ RwAt H B bs ∧ ScAt H a ps ∧ ScOk ps ∧ (∀ p ∈ ps, p.fits bs.length) ∧ ∀ H', Same H H' → Q (.bl true) H'
def sp_refuse_wrong (_ : PySem.W.Frag) : Sp := fun vs H Q _ => ∃ (B a : Addr) (bs : List Str) (ps : List Pc), vs = [.ref B, .ref a] ∧ RwAt H B bs ∧ ScAt H a ps ∧ ScOk ps ∧ (∀ p ∈ ps, p.fits bs.length) ∧ ∀ H', Same H H' → Q .non H'
def sp_made (_ : PySem.W.Frag) : Sp := fun vs H Q _ => ∃ (B a : Addr) (bs : List Str) (ps : List Pc), vs = [.ref B, .ref a] ∧ RwAt H B bs ∧ ScAt H a ps ∧ ScOk ps ∧ (∀ p ∈ ps, p.fits bs.length) ∧ ∀ (r : Addr) (H' : Hp), Same H H' → RwAt H' r (makes bs ps) → Q (.ref r) H'
abbrev sp_done (K : PySem.W.Frag) : Sp := sp_made K
abbrev sp_l_made (K : PySem.W.Frag) : Sp := sp_made K
def sp_price (_ : PySem.W.Frag) : Sp := fun vs H Q _ => ∃ (a : Addr) (ps : List Pc) (t p : Int), vs = [.ref a, .int t, .int p] ∧ ScAt H a ps ∧ ScOk ps ∧ 0 ≤ t ∧ t ≤ 10000000 ∧ 0 ≤ p ∧ p ≤ 10000000 ∧ ∀ H', Same H H' → Q (.int (cost t p ps)) H'
def sp_l_cost (_ : PySem.W.Frag) : Sp := fun vs H Q _ => ∃ (a : Addr) (ps : List Pc) (t p : Int), vs = [.ref a, .int t, .int p] ∧ ScAt H a ps ∧ ScOk ps ∧ 0 ≤ t ∧ t ≤ 10000000 ∧ 0 ≤ p ∧ p ≤ 10000000 ∧ Q (.int (cost t p ps)) H
section
variable {K : PySem.W.Frag} {vs : List V} {H : Hp} {Q : VK} {E : XK}
theorem len_is_sign (h : sp_is_sign K vs H Q E) : vs.length = 1 := by obtain ⟨_, rfl, _⟩ := h; rfl
theorem len_is_text (h : sp_is_text K vs H Q E) : vs.length = 1 := by obtain ⟨_, rfl, _⟩ := h; rfl
theorem len_is_row (h : sp_is_row K vs H Q E) : vs.length = 1 := by obtain ⟨_, rfl, _⟩ := h; rfl
theorem len_is_intI (h : sp_is_intI K vs H Q E) : vs.length = 1 := by obtain ⟨_, rfl, _⟩ := h; rfl
theorem len_is_pairT (h : sp_is_pairT K vs H Q E) : vs.length = 1 := by obtain ⟨_, _, _, rfl, _⟩ := h; rfl
theorem len_are_put (h : sp_are_put K vs H Q E) : vs.length = 1 := by obtain ⟨_, _, rfl, _⟩ := h; rfl
theorem len_rows_in (h : sp_rows_in K vs H Q E) : vs.length = 1 := by obtain ⟨_, _, rfl, _⟩ := h; rfl
theorem len_is_piece (h : sp_is_piece K vs H Q E) : vs.length = 1 := by obtain ⟨_, _, rfl, _⟩ := h; rfl
theorem len_is_script (h : sp_is_script K vs H Q E) : vs.length = 1 := by obtain ⟨_, _, rfl, _⟩ := h; rfl
theorem len_is_right_over (h : sp_is_right_over K vs H Q E) : vs.length = 2 := by obtain ⟨_, _, _, _, rfl, _⟩ := h; rfl
theorem len_refuse_wrong (h : sp_refuse_wrong K vs H Q E) : vs.length = 2 := by obtain ⟨_, _, _, _, rfl, _⟩ := h; rfl
theorem len_made (h : sp_made K vs H Q E) : vs.length = 2 := by obtain ⟨_, _, _, _, rfl, _⟩ := h; rfl
theorem len_done (h : sp_done K vs H Q E) : vs.length = 2 := len_made h
theorem len_l_made (h : sp_l_made K vs H Q E) : vs.length = 2 := len_made h
theorem len_price (h : sp_price K vs H Q E) : vs.length = 3 := by obtain ⟨_, _, _, _, rfl, _⟩ := h; rfl
theorem len_l_cost (h : sp_l_cost K vs H Q E) : vs.length = 3 := by obtain ⟨_, _, _, _, rfl, _⟩ := h; rfl
end
abbrev N_is_int : List Str := ["thing"]
def t_is_int (K : PySem.W.Frag) : TS := (tRet (tAndV (tCB (rIsi K) (tCons (tVar 0) (tCons (tC (.ty "int")) tNil))) (tNotV (tCB (rIsi K) (tCons (tVar 0) (tCons (tC (.ty "bool")) tNil))))))
abbrev N_is_text : List Str := ["thing", "sign"]
def t_is_text (K : PySem.W.Frag) : TS := (tRet (tAndV (tCB (rIsi K) (tCons (tVar 0) (tCons (tC (.ty "str")) tNil))) (tCB (rAll K) (tCons (tLc (iStr (tVar 0)) (gName 1) tYes (tCall (sp_is_sign K) [] E0 (tCons (tVar 1) tNil)) [1]) tNil))))
abbrev N_is_sign : List Str := ["sign"]
def t_is_sign (K : PySem.W.Frag) : TS := (tRet (tAndV (tChain rLeS rLeS (tC (.str " ")) (tVar 0) (tC (.str "~"))) (tOp rNe (tCB fOrd (tCons (tVar 0) tNil)) (tC (.int 37)))))
abbrev N_is_pair : List Str := ["thing"]
def t_is_pair (K : PySem.W.Frag) : TS := (tRet (tAndV (tCB (rIsi K) (tCons (tVar 0) (tCons (tC (.ty "tuple")) tNil))) (tOp rEq (tCB (fLen K) (tCons (tVar 0) tNil)) (tC (.int 2)))))
abbrev N_is_row : List Str := ["thing"]
def t_is_row (K : PySem.W.Frag) : TS := (tRet (tAndV (tCall (sp_is_text K) [] E0 (tCons (tVar 0) tNil)) (tOp rLeI (tCB (fLen K) (tCons (tVar 0) tNil)) (tC (.int 40)))))
abbrev N_is_script : List Str := ["thing", "piece"]
def t_is_script (K : PySem.W.Frag) : TS := (tSeq (tIfS (tOr (tNot (tB (tCB (rIsi K) (tCons (tVar 0) (tCons (tC (.ty "tuple")) tNil))))) (tNot (tB (tCB (rAll K) (tCons (tLc (iTup K (tVar 0)) (gName 1) tYes (tCall (sp_is_piece K) [] E0 (tCons (tVar 1) tNil)) [1]) tNil))))) (tRet (tC (.bl false))) tNext)
    (tRet (tOp rLeI (tCB (rSum K) (tCons (tLc (iTup K (tVar 0)) (gName 1) tYes (tCall (sp_rows_in K) [] E0 (tCons (tVar 1) tNil)) [1]) tNil)) (tC (.int 40)))))
abbrev N_is_piece : List Str := ["thing"]
def t_is_piece (K : PySem.W.Frag) : TS := (tSeq (tIfS (tOr (tNot (tB (tCB (rIsi K) (tCons (tVar 0) (tCons (tC (.ty "tuple")) tNil))))) (tTest (tOp rEq (tCB (fLen K) (tCons (tVar 0) tNil)) (tC (.int 0))))) (tRet (tC (.bl false))) tNext)
    (tSeq (tIfS (tTest (tOp rEq (tOp (rIx K) (tVar 0) (tC (.int 0))) (tC (.str "take")))) (tRet (tAndV (tOp rEq (tCB (fLen K) (tCons (tVar 0) tNil)) (tC (.int 3))) (tAndV (tCall (sp_is_intI K) [] E0 (tCons (tOp (rIx K) (tVar 0) (tC (.int 1))) tNil)) (tAndV (tCall (sp_is_intI K) [] E0 (tCons (tOp (rIx K) (tVar 0) (tC (.int 2))) tNil)) (tAndV (tOp rGeI (tOp (rIx K) (tVar 0) (tC (.int 1))) (tC (.int 0))) (tOp rGeI (tOp (rIx K) (tVar 0) (tC (.int 2))) (tC (.int 1)))))))) tNext)
    (tRet (tAndV (tOp rEq (tOp (rIx K) (tVar 0) (tC (.int 0))) (tC (.str "put"))) (tAndV (tCall (sp_is_pairT K) [] E0 (tCons (tVar 0) tNil)) (tCall (sp_are_put K) [] E0 (tCons (tOp (rIx K) (tVar 0) (tC (.int 1))) tNil)))))))
abbrev N_are_put : List Str := ["thing", "row"]
def t_are_put (K : PySem.W.Frag) : TS := (tRet (tAndV (tCB (rIsi K) (tCons (tVar 0) (tCons (tC (.ty "tuple")) tNil))) (tAndV (tOp rGtI (tCB (fLen K) (tCons (tVar 0) tNil)) (tC (.int 0))) (tCB (rAll K) (tCons (tLc (iTup K (tVar 0)) (gName 1) tYes (tCall (sp_is_row K) [] E0 (tCons (tVar 1) tNil)) [1]) tNil)))))
abbrev N_rows_in : List Str := ["piece"]
def t_rows_in (K : PySem.W.Frag) : TS := (tRet (tIf (tTest (tOp rEq (tOp (rIx K) (tVar 0) (tC (.int 0))) (tC (.str "put")))) (tCB (fLen K) (tCons (tOp (rIx K) (tVar 0) (tC (.int 1))) tNil)) (tOp (rIx K) (tVar 0) (tC (.int 2)))))
abbrev N_is_right_over : List Str := ["base", "thing", "piece"]
def t_is_right_over (K : PySem.W.Frag) : TS := (tSeq (tIfS (tNot (tB (tCall (sp_is_script K) [] E0 (tCons (tVar 1) tNil)))) (tRet (tC (.bl false))) tNext)
    (tRet (tCB (rAll K) (tCons (tLc (iTup K (tVar 1)) (gName 2) tYes (tOrV (tOp rEq (tOp (rIx K) (tVar 2) (tC (.int 0))) (tC (.str "put"))) (tOp rLeI (tOp rAddI (tOp (rIx K) (tVar 2) (tC (.int 1))) (tOp (rIx K) (tVar 2) (tC (.int 2)))) (tCB (fLen K) (tCons (tVar 0) tNil)))) [2]) tNil))))
abbrev N_refuse_wrong : List Str := ["base", "thing"]
def t_refuse_wrong (K : PySem.W.Frag) : TS := (tIfS (tNot (tB (tCall (sp_is_right_over K) [] E0 (tCons (tVar 0) (tCons (tVar 1) tNil))))) tNever tNext)
abbrev N_done : List Str := ["base", "script"]
def t_done (K : PySem.W.Frag) : TS := (tSeq (tDrop (tCall (sp_refuse_wrong K) [] E0 (tCons (tVar 0) (tCons (tVar 1) tNil))))
    (tRet (tCall (sp_made K) [] E0 (tCons (tVar 0) (tCons (tVar 1) tNil)))))
abbrev N_made : List Str := ["base", "script", "rows", "piece"]
def t_made (K : PySem.W.Frag) : TS := (tSeq (tAsg (tLst tNil) (gName 2))
    (tSeq (tFor (iTup K (tVar 1)) (gName 3) (tDrop (tBM K "list" (rExtendA K) (tVar 2) (tCons (tIf (tTest (tOp rEq (tOp (rIx K) (tVar 3) (tC (.int 0))) (tC (.str "put")))) (tOp (rIx K) (tVar 3) (tC (.int 1))) (tSl (rSlA K) (tVar 0) (tPart (tOp (rIx K) (tVar 3) (tC (.int 1)))) (tPart (tOp rAddI (tOp (rIx K) (tVar 3) (tC (.int 1))) (tOp (rIx K) (tVar 3) (tC (.int 2))))))) tNil))))
    (tRet (tCB (fTupleOf K) (tCons (tVar 2) tNil)))))
abbrev N_price : List Str := ["script", "take", "put", "piece"]
def t_price (K : PySem.W.Frag) : TS := (tSeq (tIfS (tNot (tB (tCall (sp_is_script K) [] E0 (tCons (tVar 0) tNil)))) tNever tNext)
    (tRet (tCB (rSum K) (tCons (tLc (iTup K (tVar 0)) (gName 3) tYes (tIf (tTest (tOp rEq (tOp (rIx K) (tVar 3) (tC (.int 0))) (tC (.str "put")))) (tOp rMulI (tVar 2) (tCall (sp_rows_in K) [] E0 (tCons (tVar 3) tNil))) (tVar 1)) [3]) tNil))))
abbrev N_l_made : List Str := ["_law_base", "_law_pieces", "_law_made_here", "_law_piece", "_law_k", "_law_line"]
def t_l_made (K : PySem.W.Frag) : TS := (tSeq (tAsg (tLst tNil) (gName 2))
    (tSeq (tFor (iTup K (tVar 1)) (gName 3) (tIfS (tTest (tOp rEq (tOp (rIx K) (tVar 3) (tC (.int 0))) (tC (.str "take")))) (tFor (iRng1 (tCons (tOp (rIx K) (tVar 3) (tC (.int 2))) tNil)) (gName 4) (tDrop (tBM K "list" rAppend (tVar 2) (tCons (tOp (rIx K) (tVar 0) (tOp rAddI (tOp (rIx K) (tVar 3) (tC (.int 1))) (tVar 4))) tNil)))) (tFor (iTup K (tOp (rIx K) (tVar 3) (tC (.int 1)))) (gName 5) (tDrop (tBM K "list" rAppend (tVar 2) (tCons (tVar 5) tNil))))))
    (tRet (tCB (fTupleOf K) (tCons (tVar 2) tNil)))))
abbrev N_l_cost : List Str := ["_law_pieces", "_law_by_take", "_law_by_put", "_law_total", "_law_piece"]
def t_l_cost (K : PySem.W.Frag) : TS := (tSeq (tAsg (tC (.int 0)) (gName 3))
    (tSeq (tFor (iTup K (tVar 0)) (gName 4) (tIfS (tTest (tOp rEq (tOp (rIx K) (tVar 4) (tC (.int 0))) (tC (.str "take")))) (tAsg (tOp rAddI (tVar 3) (tVar 1)) (gName 3)) (tAsg (tOp rAddI (tVar 3) (tOp rMulI (tVar 2) (tCB (fLen K) (tCons (tOp (rIx K) (tVar 4) (tC (.int 1))) tNil)))) (gName 3))))
    (tRet (tVar 3))))
theorem blT {p : Prop} [Decidable p] {Q : VK} {H : Hp} (h : p) (q : Q (.bl true) H) : Q (.bl (decide p)) H := by rw [decide_eq_true h]; exact q
theorem blF {p : Prop} [Decidable p] {Q : VK} {H : Hp} (h : ¬ p) (q : Q (.bl false) H) : Q (.bl (decide p)) H := by rw [decide_eq_false h]; exact q
theorem rep_get {n i : Nat} {y : V} {x : V} (h : (List.replicate n x)[i]? = some y) : y = x := by
  obtain ⟨_, e⟩ := List.getElem?_eq_some_iff.mp h
  rw [← e, List.getElem_replicate]
theorem all_rep (n : Nat) : (List.replicate n true).all id = true := by
  rw [List.all_eq_true]
  intro x hx
  rw [List.eq_of_mem_replicate hx]
  rfl
theorem yStr {z : Str} : ∀ (i : Nat) (H : Hp) (x : V) (H' : Hp), (H' = H ∧ ∃ c, z.cps[i]? = some c ∧ x = .str ⟨#[c]⟩) → H' = H := fun _ _ _ _ h => h.1
theorem yAt {xs : List V} : ∀ (i : Nat) (H : Hp) (x : V) (H' : Hp), YAt xs i H x H' → H' = H := fun _ _ _ _ h => h.1
theorem yFn {f : Nat → V} : ∀ (i : Nat) (H : Hp) (x : V) (H' : Hp), YFn f i H x H' → H' = H := fun _ _ _ _ h => h.1
theorem blank_le {c : Nat} (h : 32 ≤ c) : (!decide ((⟨#[c]⟩ : Str).cps.toList < (" " : Str).cps.toList)) = true := by
  have e : (" " : Str).cps.toList = [32] := by decide +kernel
  rw [e]
  show (!decide ([c] < [32])) = true
  rw [decide_eq_false]
  · rfl
  · intro h2
    rcases List.cons_lt_cons_iff.mp h2 with h3 | h3
    · omega
    · exact absurd h3.2 (by decide)
theorem le_tilde {c : Nat} (h : c ≤ 126) : (!decide (("~" : Str).cps.toList < (⟨#[c]⟩ : Str).cps.toList)) = true := by
  have e : ("~" : Str).cps.toList = [126] := by decide +kernel
  rw [e]
  show (!decide ([126] < [c])) = true
  rw [decide_eq_false]
  · rfl
  · intro h2
    rcases List.cons_lt_cons_iff.mp h2 with h3 | h3
    · omega
    · exact absurd h3.2 (by decide)
section
variable {K : PySem.W.Frag} {vs : List V} {H : Hp} {Q : VK} {E : XK}
theorem pure_is_intI (h : sp_is_intI K vs H Q E) : t_is_int K { nx := fun _ H' => Q .non H', rt := Q } (start N_is_int vs) H := by
  obtain ⟨i, rfl, k⟩ := h
  exact ⟨_, rfl, isi (.base (.int i)) k_ii ⟨_, rfl, iteT ⟨_, rfl, isi (.base (.int i)) k_ib ⟨_, rfl, k⟩⟩⟩⟩
theorem pure_is_pairT (h : sp_is_pairT K vs H Q E) : t_is_pair K { nx := fun _ H' => Q .non H', rt := Q } (start N_is_pair vs) H := by
  obtain ⟨a, x, y, rfl, ha, k⟩ := h
  exact ⟨_, rfl, isi (.base (.tup ha)) k_tt ⟨_, rfl, iteT ⟨_, rfl, lenT ha ⟨rfl, k⟩⟩⟩⟩
theorem pure_is_sign (h : sp_is_sign K vs H Q E) : t_is_sign K { nx := fun _ H' => Q .non H', rt := Q } (start N_is_sign vs) H := by
  obtain ⟨c, rfl, ⟨h1, h2, h3⟩, k⟩ := h
  refine ⟨_, rfl, _, _, rfl, rfl, _, rfl, ?_⟩
  rw [blank_le h1]
  refine iteT ⟨_, _, rfl, rfl, _, rfl, ?_⟩
  rw [le_tilde h2]
  refine iteT ⟨_, rfl, _, rfl, rfl, rfl, ?_⟩
  have e : decide (V.int (((⟨#[c]⟩ : Str).cps.getD 0 0 : Nat) : Int) = V.int 37) = false := decide_eq_false (by
    intro h
    injection h with h
    have h : (c : Int) = 37 := h
    omega)
  rw [e]
  exact k
theorem pure_is_text (h : sp_is_text K vs H Q E) : t_is_text K { nx := fun _ H' => Q .non H', rt := Q } (start N_is_text vs) H := by
  obtain ⟨z, rfl, ⟨h1, h2⟩, k⟩ := h
  refine ⟨_, rfl, isi (.base (.str z)) k_ss ⟨_, rfl, iteT ⟨_, rfl, z, rfl, fun L nL => ?_⟩⟩⟩
  refine lc_grow walk_str yStr (ys := List.replicate z.cps.size (.bl true)) nL List.length_replicate (by omega) (fun _ _ => True.intro) ?_ ?_
  · rintro i x y H' R hi ⟨_, c, hc, rfl⟩ hy s r
    refine ⟨rfl, ⟨_, rfl, c, rfl, ?_, ?_⟩⟩
    · exact h2 c (by obtain ⟨q1, q2⟩ := Array.getElem?_eq_some_iff.mp hc; rw [← q2]; exact Array.getElem_mem_toList q1)
    · rw [← rep_get hy]
      exact r _ (Same.refl _)
  · intro H' s hL
    refine ⟨L, List.replicate z.cps.size true, rfl, sqL (by rw [hL, List.map_replicate]), ?_⟩
    rw [all_rep]
    exact k _ s
theorem pure_is_row (h : sp_is_row K vs H Q E) : t_is_row K { nx := fun _ H' => Q .non H', rt := Q } (start N_is_row vs) H := by
  obtain ⟨z, rfl, o, k⟩ := h
  refine ⟨_, rfl, z, rfl, o, fun H' s => ⟨_, rfl, iteT ⟨_, rfl, lenS (Nat.le_trans o.1 (by decide)) ⟨_, _, rfl, rfl, ?_⟩⟩⟩⟩
  exact blT (Q := Q) (show ((z.length : Nat) : Int) ≤ 40 by have := o.1; show ((z.cps.size : Nat) : Int) ≤ 40; omega) (k _ s)
theorem pure_are_put (h : sp_are_put K vs H Q E) : t_are_put K { nx := fun _ H' => Q .non H', rt := Q } (start N_are_put vs) H := by
  obtain ⟨a, rs, rfl, ha, h0, hz, ho, k⟩ := h
  refine ⟨_, rfl, isi (.base (.tup ha)) k_tt ⟨_, rfl, iteT ⟨_, rfl, lenT ha ⟨_, _, rfl, rfl, _, rfl, ?_⟩⟩⟩⟩
  have hl : 0 < rs.length := List.length_pos_iff.mpr h0
  rw [decide_eq_true (show (0 : Int) < ((rs.map V.str).length : Int) by rw [List.length_map]; omega)]
  refine iteT ⟨_, rfl, a, rfl, ⟨_, sqT ha⟩, fun L nL => ?_⟩
  refine lc_grow (walk_tup (xs := rs.map V.str)) yAt (ys := List.replicate (rs.map V.str).length (.bl true)) nL List.length_replicate (by rw [List.length_map]; omega) (fun H' s => sqT (s _ _ ha)) ?_ ?_
  · rintro i x y H' R hi ⟨_, hx⟩ hy s r
    rw [List.getElem?_map] at hx
    cases q : rs[i]? with
    | none => rw [q] at hx; cases hx
    | some z =>
      rw [q] at hx
      cases Option.some.inj hx
      refine ⟨rfl, ⟨_, rfl, z, rfl, ho z (List.mem_of_getElem? q), ?_⟩⟩
      rw [rep_get hy] at r
      exact r
  · intro H' s hL
    refine ⟨L, List.replicate (rs.map V.str).length true, rfl, sqL (by rw [hL, List.map_replicate]), ?_⟩
    rw [all_rep]
    exact k _ s
theorem pure_rows_in (h : sp_rows_in K vs H Q E) : t_rows_in K { nx := fun _ H' => Q .non H', rt := Q } (start N_rows_in vs) H := by
  obtain ⟨a, p, rfl, ha, k⟩ := h
  cases p with
  | take b m =>
    refine ⟨_, rfl, ixT ha rfl ⟨rfl, _, rfl, ?_⟩⟩
    rw [take_put]
    exact iteF ⟨_, rfl, ixT ha rfl k⟩
  | put rs =>
    obtain ⟨r, h1, h2⟩ := ha
    refine ⟨_, rfl, ixT h1 rfl ⟨rfl, _, rfl, ?_⟩⟩
    rw [decide_eq_true rfl]
    refine iteT ⟨_, rfl, ixT h1 rfl (lenT h2 ?_)⟩
    rw [List.length_map]
    exact k
theorem pure_is_piece (h : sp_is_piece K vs H Q E) : t_is_piece K { nx := fun _ H' => Q .non H', rt := Q } (start N_is_piece vs) H := by
  obtain ⟨a, p, rfl, ha, ok, hz, k⟩ := h
  cases p with
  | take b m =>
    have ok : 1 ≤ m := ok
    refine ⟨_, rfl, isi (.base (.tup ha)) k_tt ⟨_, rfl, iteF ⟨_, rfl, lenT ha ⟨rfl, _, rfl, ?_⟩⟩⟩⟩
    refine iteF ⟨_, rfl, ixT ha rfl ⟨rfl, _, rfl, ?_⟩⟩
    rw [decide_eq_true rfl]
    refine iteT ⟨_, rfl, lenT ha ⟨rfl, _, rfl, iteT ?_⟩⟩
    refine ⟨_, rfl, ixT ha rfl ⟨_, rfl, _, rfl, iteT ⟨_, rfl, ixT ha rfl ⟨_, rfl, _, rfl, iteT ?_⟩⟩⟩⟩
    refine ⟨_, rfl, ixT ha rfl ⟨_, _, rfl, rfl, _, rfl, ?_⟩⟩
    rw [decide_eq_true (show (0 : Int) ≤ (b : Int) by omega)]
    refine iteT ⟨_, rfl, ixT ha rfl ⟨_, _, rfl, rfl, ?_⟩⟩
    exact blT (Q := Q) (show (1 : Int) ≤ (m : Int) by omega) (k _ (Same.refl _))
  | put rs =>
    obtain ⟨r, h1, h2⟩ := ha
    refine ⟨_, rfl, isi (.base (.tup h1)) k_tt ⟨_, rfl, iteF ⟨_, rfl, lenT h1 ⟨rfl, _, rfl, ?_⟩⟩⟩⟩
    refine iteF ⟨_, rfl, ixT h1 rfl ⟨rfl, _, rfl, ?_⟩⟩
    rw [put_take]
    refine iteF ⟨_, rfl, ixT h1 rfl ⟨rfl, _, rfl, ?_⟩⟩
    rw [decide_eq_true rfl]
    refine iteT ⟨_, rfl, a, _, _, rfl, h1, _, rfl, iteT ⟨_, rfl, ixT h1 rfl ⟨r, rs, rfl, h2, ok.1, hz, ok.2, k⟩⟩⟩
theorem pure_is_script (h : sp_is_script K vs H Q E) : t_is_script K { nx := fun _ H' => Q .non H', rt := Q } (start N_is_script vs) H := by
  obtain ⟨a, ps, rfl, ⟨as, ha, hp⟩, ok, k⟩ := h
  have hl : (as.map V.ref).length = ps.length := by rw [List.length_map, hp.1]
  have hz := ok.len
  refine ⟨_, rfl, isi (.base (.tup ha)) k_tt ⟨_, rfl, iteF ⟨_, rfl, a, rfl, ⟨_, sqT ha⟩, fun L nL => ?_⟩⟩⟩
  refine lc_grow (walk_tup (xs := as.map V.ref)) yAt (ys := List.replicate (as.map V.ref).length (.bl true)) nL List.length_replicate (by omega) (fun H' s => sqT (s _ _ ha)) ?_ ?_
  · rintro i x y H' R hi ⟨_, hx⟩ hy s r
    obtain ⟨b, p, rfl, h1, h2, h3⟩ := sc_get (hp.mono (.of s)) hx
    refine ⟨rfl, ⟨_, rfl, b, p, rfl, h3, ok.ok p (List.mem_of_getElem? h2), ?_, ?_⟩⟩
    · have := n_le_total (List.mem_of_getElem? h2)
      have := ok.few
      omega
    · rw [rep_get hy] at r
      exact r
  · intro H1 s1 hL
    refine ⟨L, List.replicate (as.map V.ref).length true, rfl, sqL (by rw [hL, List.map_replicate]), ?_⟩
    rw [all_rep]
    refine ⟨_, rfl, iteF ⟨_, rfl, a, rfl, ⟨_, sqT (s1 _ _ ha)⟩, fun L2 nL2 => ?_⟩⟩
    refine lc_grow (walk_tup (xs := as.map V.ref)) yAt (ys := (ps.map fun p => (p.n : Int)).map V.int) nL2 (by rw [List.length_map, List.length_map, hl]) (by omega) (fun H' s => sqT (s _ _ (s1 _ _ ha))) ?_ ?_
    · rintro i x y H' R hi ⟨_, hx⟩ hy s r
      obtain ⟨b, p, rfl, h1, h2, h3⟩ := sc_get (hp.mono (.of (s1.trans s))) hx
      rw [List.getElem?_map, List.getElem?_map, h2] at hy
      cases Option.some.inj hy
      exact ⟨rfl, ⟨_, rfl, b, p, rfl, h3, r _ (Same.refl _)⟩⟩
    · intro H2 s2 hL2
      refine ⟨L2, _, rfl, sqL hL2, _, _, rfl, rfl, ?_⟩
      have e : (ps.map fun p => (p.n : Int)).sum = ((total ps : Nat) : Int) := by
        unfold total
        clear hp ha hl hz k ok s1 s2 hL hL2
        induction ps with
        | nil => rfl
        | cons p ps ih =>
          rw [List.map_cons, List.map_cons, List.sum_cons, List.sum_cons, ih]
          omega
      rw [e]
      exact blT (Q := Q) (show ((total ps : Nat) : Int) ≤ 40 by have := ok.few; omega) (k _ (s1.trans s2))
theorem pure_is_right_over (h : sp_is_right_over K vs H Q E) : t_is_right_over K { nx := fun _ H' => Q .non H', rt := Q } (start N_is_right_over vs) H := by
  obtain ⟨B, a, bs, ps, rfl, hB, sc, ok, fit, k⟩ := h
  refine ⟨_, rfl, a, ps, rfl, sc, ok, fun H1 s1 => ⟨_, rfl, iteF ?_⟩⟩
  obtain ⟨as, ha, hp⟩ := sc.mono (.of s1)
  have hB1 : H1 B = some (.tup (bs.map V.str)) := s1 _ _ hB
  have hl : (as.map V.ref).length = ps.length := by rw [List.length_map, hp.1]
  have hz := ok.len
  refine ⟨_, rfl, a, rfl, ⟨_, sqT ha⟩, fun L nL => ?_⟩
  refine lc_grow (walk_tup (xs := as.map V.ref)) yAt (ys := List.replicate (as.map V.ref).length (.bl true)) nL List.length_replicate (by omega) (fun H' s => sqT (s _ _ ha)) ?_ ?_
  · rintro i x y H' R hi ⟨_, hx⟩ hy s r
    obtain ⟨b, p, rfl, h1, h2, h3⟩ := sc_get (hp.mono (.of s)) hx
    have f := fit p (List.mem_of_getElem? h2)
    rw [rep_get hy] at r
    refine ⟨rfl, ?_⟩
    cases p with
    | take c m =>
      have f : c + m ≤ bs.length := f
      refine ⟨_, rfl, ixT h3 rfl ⟨rfl, _, rfl, ?_⟩⟩
      rw [take_put]
      refine iteF ⟨_, rfl, ixT h3 rfl ⟨_, rfl, ixT h3 rfl ⟨_, _, rfl, rfl, _, rfl, lenT (s _ _ hB1) ⟨_, _, rfl, rfl, ?_⟩⟩⟩⟩
      exact blT (Q := R) (show (c : Int) + (m : Int) ≤ ((bs.map V.str).length : Int) by rw [List.length_map]; omega) (r _ (Same.refl _))
    | put rs =>
      obtain ⟨q, h4, h5⟩ := h3
      refine ⟨_, rfl, ixT h4 rfl ⟨rfl, _, rfl, ?_⟩⟩
      rw [decide_eq_true rfl]
      exact iteT (r _ (Same.refl _))
  · intro H2 s2 hL
    refine ⟨L, List.replicate (as.map V.ref).length true, rfl, sqL (by rw [hL, List.map_replicate]), ?_⟩
    rw [all_rep]
    exact k _ (s1.trans s2)
theorem pure_refuse_wrong (h : sp_refuse_wrong K vs H Q E) : t_refuse_wrong K { nx := fun _ H' => Q .non H', rt := Q } (start N_refuse_wrong vs) H := by
  obtain ⟨B, a, bs, ps, rfl, hB, sc, ok, fit, k⟩ := h
  exact ⟨_, rfl, _, rfl, B, a, bs, ps, rfl, hB, sc, ok, fit, fun H1 s1 => ⟨_, rfl, iteF (k _ s1)⟩⟩
theorem pure_done (h : sp_done K vs H Q E) : t_done K { nx := fun _ H' => Q .non H', rt := Q } (start N_done vs) H := by
  obtain ⟨B, a, bs, ps, rfl, hB, sc, ok, fit, k⟩ := h
  refine ⟨_, rfl, _, rfl, B, a, bs, ps, rfl, hB, sc, ok, fit, fun H1 s1 => ?_⟩
  exact ⟨_, rfl, _, rfl, B, a, bs, ps, rfl, s1 _ _ hB, sc.mono (.of s1), ok, fit, fun r H2 s2 => k r H2 (s1.trans s2)⟩
theorem total_take_le {ps : List Pc} (i : Nat) : total (ps.take i) ≤ total ps := by
  have e : total ps = total (ps.take i) + total (ps.drop i) := by
    unfold total
    rw [← List.sum_append, ← List.map_append, List.take_append_drop]
  omega
theorem makes_snoc {bs : List Str} {ps : List Pc} {p : Pc} {i : Nat} (h : ps[i]? = some p) : makes bs (ps.take (i + 1)) = makes bs (ps.take i) ++ p.mk bs := by
  unfold makes
  rw [List.take_add_one, h, List.map_append, List.flatten_append]
  show _ ++ (p.mk bs ++ []) = _
  rw [List.append_nil]
theorem fits_take {ps : List Pc} {L : Nat} (fit : ∀ p ∈ ps, p.fits L) (i : Nat) : ∀ p ∈ ps.take i, p.fits L := fun p hp => fit p (List.mem_of_mem_take hp)
/-- a stretch of a tuple of texts, as a slice tells it -/
theorem slA {B : Addr} {bs : List Str} {b m : Nat} (hB : H B = some (.tup (bs.map V.str))) (f : b + m ≤ bs.length) (q : ∀ (r : Addr) (H' : Hp), Same H H' → RwAt H' r ((bs.drop b).take m) → Q (.ref r) H') : rSlA K (.ref B) (some (b : Int)) (some ((b : Int) + (m : Int))) H Q := by
  have e1 : HT.sIx (bs.map V.str).length 0 (some (b : Int)) = b := by rw [HT.sIx_nat, List.length_map]; omega
  have e2 : HT.sIx (bs.map V.str).length (bs.map V.str).length (some ((b : Int) + (m : Int))) = b + m := by
    rw [show ((b : Int) + (m : Int)) = ((b + m : Nat) : Int) by omega, HT.sIx_nat, List.length_map]
    omega
  refine ⟨B, _, rfl, sqT hB, fun e => ?_, fun e r nr => ?_⟩
  · rw [e1, e2, List.length_map] at e
    obtain ⟨rfl, e⟩ := e
    refine q B H (Same.refl _) ?_
    show H B = _
    rw [hB, List.drop_zero, List.take_of_length_le (by omega)]
  · refine q r _ (Same.upd nr) ?_
    show upd H r _ r = _
    rw [updS]
    unfold cutV
    rw [e1, e2, Nat.add_sub_cancel_left, ← List.map_drop, ← List.map_take]
theorem pure_made (h : sp_made K vs H Q E) : t_made K { nx := fun _ H' => Q .non H', rt := Q } (start N_made vs) H := by
  obtain ⟨B, a, bs, ps, rfl, hB, ⟨as, ha, hp⟩, ok, fit, k⟩ := h
  refine ⟨Nat.zero_le _, fun L nL => ⟨_, rfl, a, rfl, ⟨_, sqT (updN (ne_of_none ha nL) ha)⟩, ?_⟩⟩
  refine for_tup (K := K) (a := a) (xs := as.map V.ref) (fun i σ H' => Same H H' ∧ H' L = some (.lst ((makes bs (ps.take i)).map V.str)) ∧ ∃ z, σ = [some (.ref B), some (.ref a), some (.ref L), z]) ⟨Same.upd nL, updS, none, rfl⟩ (fun i σ H' _ p => sqT (p.1 _ _ ha)) ?_ ?_
  · rintro i x σ H' hx ⟨s, hL, z, rfl⟩
    obtain ⟨c, p, rfl, h1, h2, h3⟩ := sc_get (hp.mono (.of s)) hx
    have f := fit p (List.mem_of_getElem? h2)
    have ok1 := ok.few
    have l1 := makes_len (bs := bs) (fits_take fit i)
    have l2 := total_take_le (ps := ps) i
    have l3 := mk_len f
    have l4 := n_le_total (List.mem_of_getElem? h2)
    have go : ∀ (r : Addr) (H2 : Hp), Same H' H2 → RwAt H2 r (p.mk bs) → rExtendA K (.ref L) [.ref r] H2 fun _ H3 => Same H H3 ∧ H3 L = some (.lst ((makes bs (ps.take (i + 1))).map V.str)) ∧ ∃ z, ([some (.ref B), some (.ref a), some (.ref L), some (.ref c)] : L2.St) = [some (.ref B), some (.ref a), some (.ref L), z] := by
      intro r H2 s2 hr
      refine ⟨L, r, _, _, rfl, rfl, s2 _ _ hL, .inr hr, by rw [List.length_map, List.length_map]; omega, Same.updI (s.trans s2) nL, ?_, _, rfl⟩
      rw [updS, makes_snoc h2, List.map_append]
    refine ⟨_, rfl, .inl ⟨rfl, _, sqL hL⟩, ?_⟩
    cases p with
    | take b m =>
      refine ⟨_, rfl, ixT h3 rfl ⟨rfl, _, rfl, ?_⟩⟩
      rw [take_put]
      refine iteF ⟨_, rfl, _, rfl, ixT h3 rfl ⟨_, rfl, _, rfl, ixT h3 rfl ⟨_, rfl, ixT h3 rfl ⟨_, _, rfl, rfl, _, rfl, ?_⟩⟩⟩⟩
      exact slA (s _ _ hB) f go
    | put rs =>
      obtain ⟨q, h4, h5⟩ := h3
      refine ⟨_, rfl, ixT h4 rfl ⟨rfl, _, rfl, ?_⟩⟩
      rw [decide_eq_true rfl]
      refine iteT ⟨_, rfl, ixT h4 rfl ?_⟩
      exact go q _ (Same.refl _) h5
  · rintro σ H' ⟨s, hL, z, rfl⟩
    rw [List.length_map, hp.1, List.take_of_length_le (Nat.le_refl _)] at hL
    exact ⟨_, rfl, L, _, rfl, .inl ⟨sqL hL, fun r nr => k r _ (s.trans (Same.upd nr)) updS⟩⟩
theorem pure_price (h : sp_price K vs H Q E) : t_price K { nx := fun _ H' => Q .non H', rt := Q } (start N_price vs) H := by
  obtain ⟨a, ps, t, p, rfl, sc, ok, t0, t1, p0, p1, k⟩ := h
  refine ⟨_, rfl, a, ps, rfl, sc, ok, fun H1 s1 => ⟨_, rfl, iteF ?_⟩⟩
  obtain ⟨as, ha, hp⟩ := sc.mono (.of s1)
  have hl : (as.map V.ref).length = ps.length := by rw [List.length_map, hp.1]
  have hz := ok.len
  refine ⟨_, rfl, a, rfl, ⟨_, sqT ha⟩, fun L nL => ?_⟩
  refine lc_grow (walk_tup (xs := as.map V.ref)) yAt (ys := (ps.map (Pc.cost t p)).map V.int) nL (by rw [List.length_map, List.length_map, hl]) (by omega) (fun H' s => sqT (s _ _ ha)) ?_ ?_
  · rintro i x y H' R hi ⟨_, hx⟩ hy s r
    obtain ⟨b, q, rfl, h1, h2, h3⟩ := sc_get (hp.mono (.of s)) hx
    rw [List.getElem?_map, List.getElem?_map, h2] at hy
    cases Option.some.inj hy
    refine ⟨rfl, ?_⟩
    cases q with
    | take c m =>
      refine ⟨_, rfl, ixT h3 rfl ⟨rfl, _, rfl, ?_⟩⟩
      rw [take_put]
      exact iteF ⟨_, rfl, r _ (Same.refl _)⟩
    | put rs =>
      have h30 := h3
      obtain ⟨q, h4, h5⟩ := h3
      refine ⟨_, rfl, ixT h4 rfl ⟨rfl, _, rfl, ?_⟩⟩
      rw [decide_eq_true rfl]
      exact iteT ⟨_, rfl, _, rfl, b, .put rs, rfl, h30, _, _, rfl, rfl, .inl ⟨by omega, by omega⟩, r _ (Same.refl _)⟩
  · intro H2 s2 hL
    exact ⟨L, _, rfl, sqL hL, k _ (s1.trans s2)⟩
theorem cost_snoc {t p : Int} {ps : List Pc} {q : Pc} {i : Nat} (h : ps[i]? = some q) : cost t p (ps.take (i + 1)) = cost t p (ps.take i) + q.cost t p := by
  unfold cost
  rw [List.take_add_one, h, List.map_append, List.sum_append]
  show _ + (q.cost t p + 0) = _
  omega
theorem pure_l_cost (h : sp_l_cost K vs H Q E) : t_l_cost K { nx := fun _ H' => Q .non H', rt := Q } (start N_l_cost vs) H := by
  obtain ⟨a, ps, t, p, rfl, ⟨as, ha, hp⟩, ok, t0, t1, p0, p1, k⟩ := h
  refine ⟨_, rfl, a, rfl, ⟨_, sqT ha⟩, ?_⟩
  refine for_tup (K := K) (a := a) (xs := as.map V.ref) (fun i σ H' => H' = H ∧ ∃ z, σ = [some (.ref a), some (.int t), some (.int p), some (.int (cost t p (ps.take i))), z]) ⟨rfl, none, rfl⟩ (fun i σ H' _ p => by rw [p.1]; exact sqT ha) ?_ ?_
  · rintro i x σ H' hx ⟨rfl, z, rfl⟩
    obtain ⟨b, q, rfl, h1, h2, h3⟩ := sc_get hp hx
    cases q with
    | take c m =>
      refine ⟨_, rfl, ixT h3 rfl ⟨rfl, _, rfl, ?_⟩⟩
      rw [decide_eq_true rfl]
      refine iteT ⟨_, rfl, _, rfl, _, _, rfl, rfl, rfl, some (.ref b), ?_⟩
      rw [cost_snoc h2]
      rfl
    | put rs =>
      obtain ⟨q, h4, h5⟩ := h3
      refine ⟨_, rfl, ixT h4 rfl ⟨rfl, _, rfl, ?_⟩⟩
      rw [put_take]
      refine iteF ⟨_, rfl, _, rfl, _, rfl, ixT h4 rfl (lenT h5 ⟨_, _, rfl, rfl, .inl ⟨by omega, by omega⟩, _, _, rfl, rfl, rfl, some (.ref b), ?_⟩)⟩
      rw [cost_snoc h2, List.length_map]
      rfl
  · rintro σ H' ⟨rfl, z, rfl⟩
    rw [List.length_map, hp.1, List.take_of_length_le (Nat.le_refl _)]
    exact ⟨_, rfl, k⟩
theorem pure_l_made (h : sp_l_made K vs H Q E) : t_l_made K { nx := fun _ H' => Q .non H', rt := Q } (start N_l_made vs) H := by
  obtain ⟨B, a, bs, ps, rfl, hB, ⟨as, ha, hp⟩, ok, fit, k⟩ := h
  refine ⟨Nat.zero_le _, fun L nL => ⟨_, rfl, a, rfl, ⟨_, sqT (updN (ne_of_none ha nL) ha)⟩, ?_⟩⟩
  refine for_tup (K := K) (a := a) (xs := as.map V.ref) (fun i σ H' => Same H H' ∧ H' L = some (.lst ((makes bs (ps.take i)).map V.str)) ∧ ∃ z3 z4 z5, σ = [some (.ref B), some (.ref a), some (.ref L), z3, z4, z5]) ⟨Same.upd nL, updS, none, none, none, rfl⟩ (fun i σ H' _ p => sqT (p.1 _ _ ha)) ?_ ?_
  · rintro i x σ H' hx ⟨s, hL, z3, z4, z5, rfl⟩
    obtain ⟨c, p, rfl, h1, h2, h3⟩ := sc_get (hp.mono (.of s)) hx
    have f := fit p (List.mem_of_getElem? h2)
    have ok1 := ok.few
    have l1 := makes_len (bs := bs) (fits_take fit i)
    have l2 := total_take_le (ps := ps) i
    have l3 := mk_len f
    have l4 := n_le_total (List.mem_of_getElem? h2)
    have nLm : ∀ (H2 : Hp) (ws : List V), Same H H2 → Same H (upd H2 L (.lst ws)) := fun H2 ws s2 => Same.updI s2 nL
    cases p with
    | take b m =>
      have f : b + m ≤ bs.length := f
      have l4 : m ≤ total ps := l4
      refine ⟨_, rfl, ixT h3 rfl ⟨rfl, _, rfl, ?_⟩⟩
      rw [decide_eq_true rfl]
      refine iteT ⟨_, rfl, ixT h3 rfl ⟨_, rfl, (len_le (by omega)).1, (len_le (by omega)).2, ?_⟩⟩
      refine for_range (lo := 0) (n := ((m : Nat) : Int).toNat) (fun j σ H2 => Same H H2 ∧ H2 L = some (.lst ((makes bs (ps.take i) ++ (bs.drop b).take j).map V.str)) ∧ ∃ z4, σ = [some (.ref B), some (.ref a), some (.ref L), some (.ref c), z4, z5]) ⟨s, by rw [hL, List.take_zero, List.append_nil], _, rfl⟩ ?_ ?_
      · rintro j σ H2 hj ⟨s2, hL2, z4, rfl⟩
        have hj2 : b + j < bs.length := by omega
        have g : atI (bs.map V.str) ((b : Int) + (0 + (j : Int))) = some (.str bs[b + j]) := by
          rw [show (b : Int) + (0 + (j : Int)) = ((b + j : Nat) : Int) by omega]
          exact atI_nat (by rw [List.getElem?_map, List.getElem?_eq_getElem hj2]; rfl)
        have h32 : H2 c = some (.tup [.str "take", .int (b : Int), .int (m : Int)]) := by
          have := (hp.mono (.of s2)).2 i c _ h1 h2
          exact this
        refine ⟨_, rfl, .inl ⟨rfl, _, sqL hL2⟩, _, rfl, _, rfl, ixT h32 rfl ⟨_, rfl, _, _, rfl, rfl, ixT (s2 _ _ hB) g ⟨L, _, _, rfl, rfl, hL2, ?_, ?_⟩⟩⟩
        · rw [List.length_map, List.length_append, List.length_take, List.length_drop]
          exact Nat.lt_of_le_of_lt (show _ ≤ 1000 by omega) (by decide)
        · refine ⟨nLm _ _ s2, ?_, _, rfl⟩
          rw [updS, List.take_add_one, List.getElem?_drop, List.getElem?_eq_getElem hj2]
          simp only [List.map_append, List.append_assoc]
          rfl
      · rintro σ H2 ⟨s2, hL2, z4, rfl⟩
        refine ⟨s2, ?_, _, _, _, rfl⟩
        rw [hL2, makes_snoc h2, show ((m : Nat) : Int).toNat = m by omega]
        rfl
    | put rs =>
      obtain ⟨q, h4, h5⟩ := h3
      refine ⟨_, rfl, ixT h4 rfl ⟨rfl, _, rfl, ?_⟩⟩
      rw [put_take]
      have l4 : rs.length ≤ total ps := l4
      refine iteF ⟨_, rfl, ixT h4 rfl ⟨q, rfl, ⟨_, sqT h5⟩, ?_⟩⟩
      have nLq : q ≠ L := ne_of h5 hL (by intro z; cases z)
      refine for_tup (K := K) (a := q) (xs := rs.map V.str) (fun j σ H2 => Same H H2 ∧ H2 q = some (.tup (rs.map V.str)) ∧ H2 L = some (.lst ((makes bs (ps.take i) ++ rs.take j).map V.str)) ∧ ∃ z5, σ = [some (.ref B), some (.ref a), some (.ref L), some (.ref c), z4, z5]) ⟨s, h5, by rw [hL, List.take_zero, List.append_nil], _, rfl⟩ (fun j σ H2 _ p => sqT p.2.1) ?_ ?_
      · rintro j x σ H2 hx2 ⟨s2, hq2, hL2, z5, rfl⟩
        rw [List.getElem?_map] at hx2
        cases e : rs[j]? with
        | none => rw [e] at hx2; cases hx2
        | some z =>
          rw [e] at hx2
          cases Option.some.inj hx2
          have hj := (List.getElem?_eq_some_iff.mp e).1
          refine ⟨_, rfl, .inl ⟨rfl, _, sqL hL2⟩, _, rfl, L, _, _, rfl, rfl, hL2, ?_, ?_⟩
          · rw [List.length_map, List.length_append, List.length_take]
            exact Nat.lt_of_le_of_lt (show _ ≤ 1000 by omega) (by decide)
          · refine ⟨nLm _ _ s2, updN nLq hq2, ?_, _, rfl⟩
            rw [updS, List.take_add_one, e]
            simp only [List.map_append, List.append_assoc]
            rfl
      · rintro σ H2 ⟨s2, hq2, hL2, z5, rfl⟩
        refine ⟨s2, ?_, _, _, _, rfl⟩
        rw [hL2, makes_snoc h2, List.length_map, List.take_of_length_le (Nat.le_refl _)]
        rfl
  · rintro σ H' ⟨s, hL, z3, z4, z5, rfl⟩
    rw [List.length_map, hp.1, List.take_of_length_le (Nat.le_refl _)] at hL
    exact ⟨_, rfl, L, _, rfl, .inl ⟨sqL hL, fun r nr => k r _ (s.trans (Same.upd nr)) updS⟩⟩
end
end Fw

set_option Elab.async false
set_option linter.all false
set_option maxRecDepth 100000
set_option maxHeartbeats 4000000
namespace Fw
open PySem L2 RZ RT
def StAt (H : Hp) (S : Addr) (st : List Str) : Prop := H S = some (.lst (st.map V.str)) ∧ 0 < st.length ∧ st.length ≤ 5 ∧ ∀ z ∈ st, OkS z
theorem StAt.kp {D : Addr} {H H' : Hp} {S : Addr} {st : List Str} (h : StAt H S st) (k : Kp D H H') (n : S ≠ D) : StAt H' S st := ⟨k _ _ h.1 n, h.2⟩
theorem StAt.same {H H' : Hp} {S : Addr} {st : List Str} (h : StAt H S st) (k : Same H H') : StAt H' S st := ⟨k _ _ h.1, h.2⟩
theorem Dk.same {c D : Addr} {ns : List Int} {t : Nat} {H H' : Hp} (d : Dk c D ns t H) (s : Same H H') : Dk c D ns t H' := by
  obtain ⟨a, b, e, i, n, u, h, r⟩ := d
  exact ⟨a, s _ _ b, e, i, n, u, s _ _ h, r⟩
def sp_l_text (_ : PySem.W.Frag) : Sp := fun vs H Q _ => ∃ (c D : Addr) (ns : List Int) (t : Nat) (size : Int), vs = [.ref D, .int size] ∧ Dk c D ns t H ∧ 0 ≤ size ∧ size ≤ 40 ∧ t + 50 < 1000000000 ∧
  ∀ (z : Str) (H' : Hp), OkS z → Kp D H H' → Dk c D ns (t + 50) H' → Q (.str z) H'
def sp_l_stock (_ : PySem.W.Frag) : Sp := fun vs H Q _ => ∃ (c D : Addr) (ns : List Int) (t : Nat), vs = [.ref D] ∧ Dk c D ns t H ∧ t + 300 < 1000000000 ∧
  ∀ (S : Addr) (st : List Str) (H' : Hp), StAt H' S st → H S = none → Kp D H H' → Dk c D ns (t + 300) H' → Q (.ref S) H'
def sp_l_lines (_ : PySem.W.Frag) : Sp := fun vs H Q _ => ∃ (c D S : Addr) (ns : List Int) (t : Nat) (st : List Str) (most : Int), vs = [.ref D, .ref S, .int most] ∧ Dk c D ns t H ∧ StAt H S st ∧ S ≠ D ∧ 0 ≤ most ∧ most ≤ 40 ∧ t + 50 < 1000000000 ∧
  ∀ (a : Addr) (bs : List Str) (H' : Hp), RwAt H' a bs → (∀ z ∈ bs, z ∈ st) → (bs.length : Int) ≤ most → Kp D H H' → Dk c D ns (t + 50) H' → Q (.ref a) H'
def sp_l_most (_ : PySem.W.Frag) : Sp := fun vs H Q _ => ∃ (c D : Addr) (ns : List Int) (t : Nat), vs = [.ref D] ∧ Dk c D ns t H ∧ t + 1 < 1000000000 ∧
  ∀ (m : Int) (H' : Hp), 0 ≤ m → m ≤ 40 → Kp D H H' → Dk c D ns (t + 1) H' → Q (.int m) H'
def sp_l_script (_ : PySem.W.Frag) : Sp := fun vs H Q _ => ∃ (c D B S : Addr) (ns : List Int) (t : Nat) (bs st : List Str) (most : Int), vs = [.ref D, .ref B, .ref S, .int most] ∧ Dk c D ns t H ∧ RwAt H B bs ∧ bs.length ≤ 1000 ∧ StAt H S st ∧ S ≠ D ∧ 0 ≤ most ∧ most ≤ 40 ∧ t + 300 < 1000000000 ∧
  ∀ (a : Addr) (ps : List Pc) (H' : Hp), ScAt H' a ps → ScOk ps → (∀ p ∈ ps, p.fits bs.length) → (total ps : Int) ≤ most → (∀ p ∈ ps, ∀ rs, p = .put rs → ∀ z ∈ rs, z ∈ st) → Kp D H H' → Dk c D ns (t + 300) H' → Q (.ref a) H'
section
variable {K : PySem.W.Frag} {vs : List V} {H : Hp} {Q : VK} {E : XK}
theorem len_l_text (h : sp_l_text K vs H Q E) : vs.length = 2 := by obtain ⟨_, _, _, _, _, rfl, _⟩ := h; rfl
theorem len_l_stock (h : sp_l_stock K vs H Q E) : vs.length = 1 := by obtain ⟨_, _, _, _, rfl, _⟩ := h; rfl
theorem len_l_lines (h : sp_l_lines K vs H Q E) : vs.length = 3 := by obtain ⟨_, _, _, _, _, _, _, rfl, _⟩ := h; rfl
theorem len_l_most (h : sp_l_most K vs H Q E) : vs.length = 1 := by obtain ⟨_, _, _, _, rfl, _⟩ := h; rfl
theorem len_l_script (h : sp_l_script K vs H Q E) : vs.length = 4 := by obtain ⟨_, _, _, _, _, _, _, _, _, rfl, _⟩ := h; rfl
end
abbrev N_l_text : List Str := ["_law_deck_here", "_law_size", "_law_signs", "_law_k"]
def t_l_text_rest (K : PySem.W.Frag) : TS := (tRet (tM1 (fJoin K) (tC (.str "")) (tLc (iRng1 (tCons (tCall (sp_l_draw K) [] E0 (tCons (tVar 0) (tCons (tOp rAddI (tVar 1) (tC (.int 1))) tNil))) tNil)) (gName 3) tYes (tOp (rIx K) (tVar 2) (tCall (sp_l_draw K) [] E0 (tCons (tVar 0) (tCons (tCB (fLen K) (tCons (tVar 2) tNil)) tNil)))) [3])))
def t_l_text (K : PySem.W.Frag) : TS := (tSeq (tAsg (tC (.str " !\"#$&'()*+,-./0123456789:;<=>?@ABCDEFGHIJKLMNOPQRSTUVWXYZ[\\]^_`abcdefghijklmnopqrstuvwxyz{|}~")) (gName 2))
    (tSeq (tIfS (tTest (tOp rEq (tCall (sp_l_draw K) [] E0 (tCons (tVar 0) (tCons (tC (.int 2)) tNil))) (tC (.int 0)))) (tAsg (tC (.str "ab")) (gName 2)) tNext)
    (t_l_text_rest K)))
abbrev N_l_stock : List Str := ["_law_deck_here", "_law_longest", "_law_k"]
def t_l_stock_rest (K : PySem.W.Frag) : TS := (tRet (tLc (iRng1 (tCons (tOp rAddI (tC (.int 1)) (tCall (sp_l_draw K) [] E0 (tCons (tVar 0) (tCons (tC (.int 5)) tNil)))) tNil)) (gName 2) tYes (tCall (sp_l_text K) [] E0 (tCons (tVar 0) (tCons (tVar 1) tNil))) [2]))
def t_l_stock (K : PySem.W.Frag) : TS := (tSeq (tAsg (tC (.int 4)) (gName 1))
    (tSeq (tIfS (tTest (tOp rEq (tCall (sp_l_draw K) [] E0 (tCons (tVar 0) (tCons (tC (.int 6)) tNil))) (tC (.int 0)))) (tAsg (tC (.int 40)) (gName 1)) tNext)
    (t_l_stock_rest K)))
abbrev N_l_lines : List Str := ["_law_deck_here", "_law_stock_here", "_law_most_here", "_law_k"]
def t_l_lines (K : PySem.W.Frag) : TS := (tRet (tCB (fTupleOf K) (tCons (tLc (iRng1 (tCons (tCall (sp_l_draw K) [] E0 (tCons (tVar 0) (tCons (tOp rAddI (tVar 2) (tC (.int 1))) tNil))) tNil)) (gName 3) tYes (tOp (rIx K) (tVar 1) (tCall (sp_l_draw K) [] E0 (tCons (tVar 0) (tCons (tCB (fLen K) (tCons (tVar 1) tNil)) tNil)))) [3]) tNil)))
abbrev N_l_most : List Str := ["_law_deck_here"]
def t_l_most (K : PySem.W.Frag) : TS := (tSeq (tIfS (tTest (tOp rEq (tCall (sp_l_draw K) [] E0 (tCons (tVar 0) (tCons (tC (.int 8)) tNil))) (tC (.int 0)))) (tRet (tC (.int 40))) tNext)
    (tRet (tC (.int 9))))
abbrev N_l_script : List Str := ["_law_deck_here", "_law_base", "_law_stock_here", "_law_most_here", "_law_pieces", "_law_room", "_law_begin", "_law_many", "_law_k"]
def t_l_script_take (K : PySem.W.Frag) : TS := (tSeq (tAsg (tOp rAddI (tC (.int 1)) (tCall (sp_l_draw K) [] E0 (tCons (tVar 0) (tCons (tCB fMin2 (tCons (tVar 5) (tCons (tOp rSubI (tCB (fLen K) (tCons (tVar 1) tNil)) (tVar 6)) tNil))) tNil)))) (gName 7))
    (tDrop (tBM K "list" rAppend (tVar 4) (tCons (tTup (tCons (tC (.str "take")) (tCons (tVar 6) (tCons (tVar 7) tNil)))) tNil))))
def t_l_script_put (K : PySem.W.Frag) : TS := (tSeq (tAsg (tOp rAddI (tC (.int 1)) (tCall (sp_l_draw K) [] E0 (tCons (tVar 0) (tCons (tCB fMin2 (tCons (tVar 5) (tCons (tC (.int 3)) tNil))) tNil)))) (gName 7))
    (tDrop (tBM K "list" rAppend (tVar 4) (tCons (tTup (tCons (tC (.str "put")) (tCons (tCB (fTupleOf K) (tCons (tLc (iRng1 (tCons (tVar 7) tNil)) (gName 8) tYes (tOp (rIx K) (tVar 2) (tCall (sp_l_draw K) [] E0 (tCons (tVar 0) (tCons (tCB (fLen K) (tCons (tVar 2) tNil)) tNil)))) [8]) tNil)) tNil))) tNil))))
def t_l_script_end (K : PySem.W.Frag) : TS := (tAsg (tOp rSubI (tVar 5) (tVar 7)) (gName 5))
def t_l_script_turn (K : PySem.W.Frag) : TS := (tSeq (tIfS (tAnd (tTest (tOp rGtI (tCB (fLen K) (tCons (tVar 1) tNil)) (tC (.int 0)))) (tTest (tOp rGtI (tCall (sp_l_draw K) [] E0 (tCons (tVar 0) (tCons (tC (.int 3)) tNil))) (tC (.int 0))))) (tSeq (tAsg (tCall (sp_l_draw K) [] E0 (tCons (tVar 0) (tCons (tCB (fLen K) (tCons (tVar 1) tNil)) tNil))) (gName 6))
    (t_l_script_take K)) (t_l_script_put K))
    (t_l_script_end K))
def t_l_script (K : PySem.W.Frag) : TS := (tSeq (tAsg (tLst tNil) (gName 4))
    (tSeq (tAsg (tCall (sp_l_draw K) [] E0 (tCons (tVar 0) (tCons (tOp rAddI (tVar 3) (tC (.int 1))) tNil))) (gName 5))
    (tSeq (tWhile (tTest (tOp rGtI (tVar 5) (tC (.int 0)))) (t_l_script_turn K))
    (tRet (tCB (fTupleOf K) (tCons (tVar 4) tNil))))))
theorem join_chars (ys : List Nat) : Txt.join ("" : Str) ((ys.map fun c => (⟨#[c]⟩ : Str))) = ⟨ys.toArray⟩ := by
  have e : ("" : Str) = ⟨#[]⟩ := by decide +kernel
  rw [e]
  unfold Txt.join
  have h := PyProof.Rows.join_nil_signs ⟨ys.toArray⟩
  rw [← StrLaws.glued_eq_join] at h
  exact h
theorem sum_ones : ∀ ys : List Nat, ((ys.map fun c => (⟨#[c]⟩ : Str)).map (·.length)).sum = ys.length
  | [] => rfl
  | y :: ys => by
    rw [List.map_cons, List.map_cons, List.sum_cons, sum_ones ys, List.length_cons]
    show 1 + ys.length = _
    omega
section
variable {K : PySem.W.Frag} {vs : List V} {H : Hp} {Q : VK} {E : XK}
theorem text_rest {c D : Addr} {ns : List Int} {t : Nat} {size : Int} {S : Str} {z3 : Option V} (dk : Dk c D ns t H) (s0 : 0 ≤ size) (s1 : size ≤ 40) (ht : t + 45 < 1000000000) (l0 : 0 < S.cps.size) (l1 : S.cps.size ≤ 100) (ok : ∀ x ∈ S.cps.toList, OkC x)
    (k : ∀ (z : Str) (H' : Hp), OkS z → Kp D H H' → Dk c D ns (t + 45) H' → Q (.str z) H') : t_l_text_rest K { nx := fun _ H' => Q .non H', rt := Q } [some (.ref D), some (.int size), some (.str S), z3] H := by
  refine ⟨⟨_, rfl⟩, _, rfl, _, rfl, _, _, rfl, rfl, c, D, ns, t, size + 1, rfl, dk, by omega, by omega, small100 (by omega), fun n H1 n0 n1 d1 fr1 => ⟨_, rfl, by omega, by omega, fun L nL => ?_⟩⟩
  refine lc_deck (walk_range (lo := 0) (n := n.toNat)) yFn (fun x : Nat => V.str ⟨#[x]⟩) OkC 1 nL d1 (by omega) ?_ ?_
  · intro i x H2 R hi kp d2 r
    refine ⟨rfl, ⟨_, rfl, _, rfl, _, rfl, lenS (Nat.le_trans l1 (by decide)) ⟨c, D, ns, _, _, rfl, d2, by omega, (show (0 : Int) < (S.length : Int) by show (0 : Int) < (S.cps.size : Int); omega), small100 (show ((S.cps.size : Nat) : Int).natAbs ≤ _ by omega), fun v H3 v0 v1 d3 fr3 => ?_⟩⟩⟩
    obtain ⟨j, rfl⟩ := Int.eq_ofNat_of_zero_le v0
    have hj : j < S.cps.toList.length := by
      have : ((j : Nat) : Int) < ((S.cps.size : Nat) : Int) := v1
      rw [Array.length_toList]
      omega
    exact ixS (Nat.le_trans l1 (by decide)) (atI_nat (List.getElem?_eq_getElem hj)) (r _ _ (ok _ (List.getElem_mem hj)) (.fr fr3) d3)
  · intro ys H2 hl hp kp d2 hL
    have hlen : ys.length ≤ 40 := by omega
    refine ⟨_, L, (ys.map fun c => (⟨#[c]⟩ : Str)), rfl, rfl, .inl (sqL (by rw [hL, List.map_map]; rfl)), ?_, ?_⟩
    · rw [sum_ones, List.length_map]
      show ys.length + ys.length * 0 ≤ _
      omega
    · rw [join_chars]
      refine k _ _ ⟨?_, ?_⟩ ((Kp.fr fr1).trans kp) (d2.le (by omega))
      · show ys.toArray.size ≤ 40
        rw [List.size_toArray]
        exact hlen
      · intro x hx
        exact hp x hx
theorem signs_ok : ∀ x ∈ (" !\"#$&'()*+,-./0123456789:;<=>?@ABCDEFGHIJKLMNOPQRSTUVWXYZ[\\]^_`abcdefghijklmnopqrstuvwxyz{|}~" : Str).cps.toList, OkC x := by
  have h : ((" !\"#$&'()*+,-./0123456789:;<=>?@ABCDEFGHIJKLMNOPQRSTUVWXYZ[\\]^_`abcdefghijklmnopqrstuvwxyz{|}~" : Str).cps.toList.all fun x => decide (32 ≤ x) && (decide (x ≤ 126) && !decide (x = 37))) = true := by decide +kernel
  intro x hx
  have := List.all_eq_true.mp h x hx
  simp only [Bool.and_eq_true, decide_eq_true_eq, Bool.not_eq_true', decide_eq_false_iff_not] at this
  exact ⟨this.1, this.2.1, this.2.2⟩
theorem ab_ok : ∀ x ∈ ("ab" : Str).cps.toList, OkC x := by
  have h : (("ab" : Str).cps.toList.all fun x => decide (32 ≤ x) && (decide (x ≤ 126) && !decide (x = 37))) = true := by decide +kernel
  intro x hx
  have := List.all_eq_true.mp h x hx
  simp only [Bool.and_eq_true, decide_eq_true_eq, Bool.not_eq_true', decide_eq_false_iff_not] at this
  exact ⟨this.1, this.2.1, this.2.2⟩
theorem pure_l_text (h : sp_l_text K vs H Q E) : t_l_text K { nx := fun _ H' => Q .non H', rt := Q } (start N_l_text vs) H := by
  obtain ⟨c, D, ns, t, size, rfl, dk, s0, s1, ht, k⟩ := h
  refine ⟨_, rfl, c, D, ns, t, 2, rfl, dk, by omega, by decide, by decide, fun v H1 v0 v1 d1 fr1 => ⟨rfl, _, rfl, ite2 (fun _ => ?_) (fun _ => ?_)⟩⟩
  · exact text_rest d1 s0 s1 (by omega) (by decide +kernel) (by decide +kernel) ab_ok fun z H2 o kp d2 => k z H2 o ((Kp.fr fr1).trans kp) (d2.le (by omega))
  · exact text_rest d1 s0 s1 (by omega) (by decide +kernel) (by decide +kernel) signs_ok fun z H2 o kp d2 => k z H2 o ((Kp.fr fr1).trans kp) (d2.le (by omega))
theorem stock_rest {c D : Addr} {ns : List Int} {t : Nat} {size : Int} {z2 : Option V} (dk : Dk c D ns t H) (s0 : 0 ≤ size) (s1 : size ≤ 40) (ht : t + 299 < 1000000000)
    (k : ∀ (S : Addr) (st : List Str) (H' : Hp), StAt H' S st → H S = none → Kp D H H' → Dk c D ns (t + 299) H' → Q (.ref S) H') : t_l_stock_rest K { nx := fun _ H' => Q .non H', rt := Q } [some (.ref D), some (.int size), z2] H := by
  refine ⟨_, rfl, c, D, ns, t, 5, rfl, dk, by omega, by decide, by decide, fun n H1 n0 n1 d1 fr1 => ⟨_, _, rfl, rfl, _, rfl, by omega, by omega, fun L nL => ?_⟩⟩
  refine lc_deck (walk_range (lo := 0) (n := (1 + n).toNat)) yFn V.str OkS 50 nL d1 (by omega) ?_ ?_
  · intro i x H2 R hi kp d2 r
    refine ⟨rfl, ⟨_, rfl, _, rfl, c, D, ns, _, size, rfl, d2, s0, s1, by omega, fun z H3 o kp3 d3 => r z H3 o kp3 d3⟩⟩
  · intro ys H2 hl hp kp d2 hL
    exact k L ys H2 ⟨hL, by omega, by omega, hp⟩ ((Kp.fr fr1).free nL (d1.neD nL)) ((Kp.fr fr1).trans kp) (d2.le (by omega))
theorem pure_l_stock (h : sp_l_stock K vs H Q E) : t_l_stock K { nx := fun _ H' => Q .non H', rt := Q } (start N_l_stock vs) H := by
  obtain ⟨c, D, ns, t, rfl, dk, ht, k⟩ := h
  refine ⟨_, rfl, c, D, ns, t, 6, rfl, dk, by omega, by decide, by decide, fun v H1 v0 v1 d1 fr1 => ⟨rfl, _, rfl, ite2 (fun _ => ?_) (fun _ => ?_)⟩⟩
  · exact stock_rest d1 (by decide) (by decide) (by omega) fun S st H2 h n kp d2 => k S st H2 h ((Kp.fr fr1).free n (d1.neD n)) ((Kp.fr fr1).trans kp) (d2.le (by omega))
  · exact stock_rest d1 (by decide) (by decide) (by omega) fun S st H2 h n kp d2 => k S st H2 h ((Kp.fr fr1).free n (d1.neD n)) ((Kp.fr fr1).trans kp) (d2.le (by omega))
/-- stock[draw(deck, len(stock))] -/
theorem stock_draw {c D S : Addr} {ns : List Int} {t : Nat} {st : List Str} {i j : Nat} {σ : L2.St} {R : VK} (eD : σ[i]? = some (some (.ref D))) (eS : σ[j]? = some (some (.ref S))) (dk : Dk c D ns t H) (ht : t < 1000000000) (sa : StAt H S st) (nSD : S ≠ D)
    (r : ∀ y H', y ∈ st → Kp D H H' → Dk c D ns (t + 1) H' → R (.str y) H') : tOp (rIx K) (tVar j) (tCall (sp_l_draw K) [] E0 (tCons (tVar i) (tCons (tCB (fLen K) (tCons (tVar j) tNil)) tNil))) σ H R := by
  refine ⟨_, eS, _, eD, _, eS, lenL sa.1 ⟨c, D, ns, _, _, rfl, dk, ht, ?_, ?_, fun v H3 v0 v1 d3 fr3 => ?_⟩⟩
  · rw [List.length_map]
    have := sa.2.1
    omega
  · rw [List.length_map]
    have := sa.2.2.1
    exact small100 (by omega)
  · obtain ⟨q, rfl⟩ := Int.eq_ofNat_of_zero_le v0
    rw [List.length_map] at v1
    have hq : q < st.length := by omega
    exact ixL (by rw [fr3 _ nSD]; exact sa.1) (atI_nat (by rw [List.getElem?_map, List.getElem?_eq_getElem hq]; rfl)) (r _ _ (List.getElem_mem hq) (.fr fr3) d3)
theorem pure_l_lines (h : sp_l_lines K vs H Q E) : t_l_lines K { nx := fun _ H' => Q .non H', rt := Q } (start N_l_lines vs) H := by
  obtain ⟨c, D, S, ns, t, st, most, rfl, dk, sa, nSD, m0, m1, ht, k⟩ := h
  refine ⟨_, rfl, _, rfl, _, _, rfl, rfl, c, D, ns, t, most + 1, rfl, dk, by omega, by omega, small100 (by omega), fun n H1 n0 n1 d1 fr1 => ⟨_, rfl, by omega, by omega, fun L nL => ?_⟩⟩
  have sa1 := sa.kp (.fr fr1) nSD
  refine lc_deck (walk_range (lo := 0) (n := n.toNat)) yFn V.str (fun z => z ∈ st) 1 nL d1 (by omega) ?_ ?_
  · intro i x H2 R hi kp d2 r
    exact ⟨rfl, stock_draw (i := 0) (j := 1) rfl rfl d2 (by omega) (sa1.kp kp nSD) nSD r⟩
  · intro ys H2 hl hp kp d2 hL
    refine ⟨L, _, rfl, .inl ⟨sqL hL, fun r nr => k r ys _ updS hp (by omega) (((Kp.fr fr1).trans kp).trans (.new nr)) ((d2.le (by omega)).upd (d2.neC nr) (d2.neD nr))⟩⟩
theorem pure_l_most (h : sp_l_most K vs H Q E) : t_l_most K { nx := fun _ H' => Q .non H', rt := Q } (start N_l_most vs) H := by
  obtain ⟨c, D, ns, t, rfl, dk, ht, k⟩ := h
  refine ⟨_, rfl, c, D, ns, t, 8, rfl, dk, by omega, by decide, by decide, fun v H1 v0 v1 d1 fr1 => ⟨rfl, _, rfl, ite2 (fun _ => ?_) (fun _ => ?_)⟩⟩
  · exact k 40 H1 (by decide) (by decide) (.fr fr1) d1
  · exact k 9 H1 (by decide) (by decide) (.fr fr1) d1
/-- the state of the maker of scripts -/
structure SS (H0 : Hp) (c D L B S : Addr) (ns : List Int) (t : Nat) (bs st : List Str) (as : List Addr) (ps : List Pc) (H : Hp) : Prop where
  dk : Dk c D ns t H
  keep : Kp D H0 H
  hl : H L = some (.lst (as.map V.ref))
  pr : PsAt H as ps
  ok : ∀ p ∈ ps, p.ok
  fit : ∀ p ∈ ps, p.fits bs.length
  sub : ∀ p ∈ ps, ∀ rs, p = .put rs → ∀ z ∈ rs, z ∈ st
  nL : H0 L = none
  d0 : ∃ t0, Dk c D ns t0 H0
  hB : RwAt H0 B bs
  sa : StAt H0 S st
  nS : S ≠ D
section
variable {H0 H H' : Hp} {c D L B S q : Addr} {ns : List Int} {t t' : Nat} {bs st : List Str} {as : List Addr} {ps : List Pc} {o : HO}
theorem SS.nLD (s : SS H0 c D L B S ns t bs st as ps H) : L ≠ D := s.d0.choose_spec.neD s.nL
theorem SS.nLC (s : SS H0 c D L B S ns t bs st as ps H) : L ≠ c := s.d0.choose_spec.neC s.nL
theorem SS.move (s : SS H0 c D L B S ns t bs st as ps H) (k : Kp D H H') (d : Dk c D ns t' H') : SS H0 c D L B S ns t' bs st as ps H' :=
  ⟨d, s.keep.trans k, k _ _ s.hl s.nLD, s.pr.mono (k.tm s.dk), s.ok, s.fit, s.sub, s.nL, s.d0, s.hB, s.sa, s.nS⟩
theorem SS.baseAt (s : SS H0 c D L B S ns t bs st as ps H) : RwAt H B bs := s.keep.tup s.d0.choose_spec _ _ s.hB
theorem SS.stAt (s : SS H0 c D L B S ns t bs st as ps H) : StAt H S st := s.sa.kp s.keep s.nS
theorem SS.add (s : SS H0 c D L B S ns t bs st as ps H) {T : Addr} {p : Pc} (hT : PcAt H T p) (ok : p.ok) (fit : p.fits bs.length) (sub : ∀ rs, p = .put rs → ∀ z ∈ rs, z ∈ st) : SS H0 c D L B S ns t bs st (as ++ [T]) (ps ++ [p]) (upd H L (.lst (as.map V.ref ++ [.ref T]))) := by
  have tm : TM H (upd H L (.lst (as.map V.ref ++ [.ref T]))) := fun a xs h => updN (ne_of h s.hl (by intro z; cases z)) h
  refine ⟨s.dk.upd s.nLC s.nLD, fun b u e n => updN (ne_of_none e s.nL) (s.keep b u e n), by rw [updS, List.map_append]; rfl, (s.pr.snoc hT).mono tm, fun q hq => ?_, fun q hq => ?_, fun q hq => ?_, s.nL, s.d0, s.hB, s.sa, s.nS⟩
  · rcases List.mem_append.mp hq with h | h
    · exact s.ok q h
    · cases List.mem_singleton.mp h
      exact ok
  · rcases List.mem_append.mp hq with h | h
    · exact s.fit q h
    · cases List.mem_singleton.mp h
      exact fit
  · rcases List.mem_append.mp hq with h | h
    · exact s.sub q h
    · cases List.mem_singleton.mp h
      exact sub
end
theorem total_snoc (ps : List Pc) (p : Pc) : total (ps ++ [p]) = total ps + p.n := by
  unfold total
  rw [List.map_append, List.sum_append]
  show _ + (p.n + 0) = _
  omega
theorem min2_eq {i j : Int} : (if j < i then j else i) ≤ i ∧ (if j < i then j else i) ≤ j := by
  by_cases h : j < i
  · rw [if_pos h]; omega
  · rw [if_neg h]; omega
theorem min2_pos {i j : Int} (h1 : 0 < i) (h2 : 0 < j) : 0 < (if j < i then j else i) := by
  by_cases h : j < i
  · rw [if_pos h]; exact h2
  · rw [if_neg h]; exact h1
def SsW (H0 : Hp) (c D L B S : Addr) (ns : List Int) (t : Nat) (bs st : List Str) (most m0 : Int) (σ : L2.St) (H' : Hp) : Prop := ∃ (as : List Addr) (ps : List Pc) (room : Int) (z6 z7 z8 : Option V),
  σ = [some (.ref D), some (.ref B), some (.ref S), some (.int most), some (.ref L), some (.int room), z6, z7, z8] ∧ 0 ≤ room ∧ (total ps : Int) + room = m0 ∧ SS H0 c D L B S ns (t + 6 * total ps) bs st as ps H'
theorem pure_l_script (h : sp_l_script K vs H Q E) : t_l_script K { nx := fun _ H' => Q .non H', rt := Q } (start N_l_script vs) H := by
  obtain ⟨c, D, B, S, ns, t, bs, st, most, rfl, dk, hB, hbl, sa, nSD, m0, m1, ht, k⟩ := h
  refine ⟨Nat.zero_le _, fun L nL => ?_⟩
  have dL := dk.upd (o := .lst []) (dk.neC nL) (dk.neD nL)
  refine ⟨_, rfl, _, rfl, _, _, rfl, rfl, c, D, ns, t, most + 1, rfl, dL, by omega, by omega, small100 (by omega), fun n H1 n0 n1 d1 fr1 => ?_⟩
  have nLD : L ≠ D := dk.neD nL
  have k1 : Kp D H H1 := (Kp.new nL).trans (.fr fr1)
  have s1 : SS H c D L B S ns (t + 1 + 6 * 0) bs st [] [] H1 := ⟨d1, k1, by rw [fr1 _ nLD]; exact updS, .nil, (fun _ h => by cases h), (fun _ h => by cases h), (fun _ h => by cases h), nL, ⟨t, dk⟩, hB, sa, nSD⟩
  show tSeq (tWhile _ (t_l_script_turn K)) _ _ [some (.ref D), some (.ref B), some (.ref S), some (.int most), some (.ref L), some (.int n), none, none, none] H1
  refine while_by (SsW H c D L B S ns (t + 1) bs st most n) (fun σ _ => slotN 5 σ) ⟨[], [], n, none, none, none, rfl, n0, by show ((0 : Nat) : Int) + n = n; omega, s1⟩ ?_ (fun σ H Q Q' f h => by
    obtain ⟨v, e, i, j, e1, e2, b, e3, q⟩ := h
    exact ⟨v, e, i, j, e1, e2, b, e3, f _ _ q⟩)
  rintro σ H2 ⟨as, ps, room, z6, z7, z8, rfl, r0, rt, s⟩
  refine ⟨_, rfl, _, _, rfl, rfl, _, rfl, ite2 (fun e => ?_) (fun e => ?_)⟩
  · have hroom : 0 < room := of_decide_eq_true e
    have tot : (total ps : Int) ≤ 40 := by omega
    have nl : as.length ≤ 40 := by
      rw [s.pr.1]
      have := len_le_total s.ok
      omega
    -- the end of a turn
    have fin : ∀ (T : Addr) (p : Pc) (m' : Int) (y6 y8 : Option V) (t' : Nat) (H3 : Hp) (D1 D2 : Ends), (∀ σ' H', SsW H c D L B S ns (t + 1) bs st most n σ' H' ∧ slotN 5 σ' < room.toNat → D1.nx σ' H') → (∀ σ' H', t_l_script_end K D1 σ' H' → D2.nx σ' H') → m' = (p.n : Int) → t' ≤ t + 1 + 6 * total ps + 6 → SS H c D L B S ns t' bs st as ps H3 → PcAt H3 T p → p.ok → p.fits bs.length → (∀ rs, p = .put rs → ∀ z ∈ rs, z ∈ st) → (p.n : Int) ≤ room →
        rAppend (.ref L) [.ref T] H3 fun _ H4 => D2.nx [some (.ref D), some (.ref B), some (.ref S), some (.int most), some (.ref L), some (.int room), y6, some (.int m'), y8] H4 := by
      intro T p m' y6 y8 t' H3 D1 D2 k1 k2 em ht' s3 hT ok fit sub hn
      subst em
      have p1 := Pc.one ok
      refine ⟨L, _, _, rfl, rfl, s3.hl, by rw [List.length_map]; exact Nat.lt_of_le_of_lt nl (by decide), k2 _ _ ?_⟩
      refine ⟨_, rfl, _, rfl, _, _, rfl, rfl, k1 _ _ ⟨⟨as ++ [T], ps ++ [p], room - (p.n : Int), _, _, _, rfl, by omega, by rw [total_snoc]; omega, ?_⟩, ?_⟩⟩
      · have s4 := s3.add hT ok fit sub
        refine s4.move (Kp.refl _ _) (s4.dk.le ?_)
        rw [total_snoc, Nat.mul_add]
        omega
      · show (room - (p.n : Int)).toNat < room.toNat
        omega
    have put : ∀ (y6 y7 y8 : Option V) (t' : Nat) (H3 : Hp) (D1 D2 : Ends), (∀ σ' H', SsW H c D L B S ns (t + 1) bs st most n σ' H' ∧ slotN 5 σ' < room.toNat → D1.nx σ' H') → (∀ σ' H', t_l_script_end K D1 σ' H' → D2.nx σ' H') → t' ≤ t + 1 + 6 * total ps + 1 → SS H c D L B S ns t' bs st as ps H3 → t_l_script_put K D2 [some (.ref D), some (.ref B), some (.ref S), some (.int most), some (.ref L), some (.int room), y6, y7, y8] H3 := by
      intro y6 y7 y8 t' H3 D1 D2 k1 k2 ht' s3
      have mp := min2_pos hroom (show (0 : Int) < 3 by decide)
      have ml := min2_eq (i := room) (j := 3)
      refine ⟨_, rfl, _, rfl, _, _, rfl, c, D, ns, t', _, rfl, s3.dk, by omega, mp, small100 (by omega), fun v H4 v0 v1 d4 fr4 => ⟨_, _, rfl, rfl, ?_⟩⟩
      have s4 := s3.move (.fr fr4) d4
      refine ⟨_, rfl, .inl ⟨rfl, _, sqL s4.hl⟩, _, rfl, _, rfl, by omega, by omega, fun G nG => ?_⟩
      refine lc_deck (walk_range (lo := 0) (n := (1 + v).toNat)) yFn V.str (fun z => z ∈ st) 1 nG d4 (by omega) ?_ ?_
      · intro i x H5 R hi kp d5 r
        exact ⟨rfl, stock_draw (i := 0) (j := 2) rfl rfl d5 (by omega) (s4.move kp d5).stAt nSD r⟩
      · intro ys H5 hl hp kp d5 hG
        refine ⟨G, _, rfl, .inl ⟨sqL hG, fun r nr => ⟨by show (2 : Nat) ≤ sizeLine; decide, fun T nT => ?_⟩⟩⟩
        have s5 := s4.move kp d5
        have s6 := s5.move (Kp.new (o := .tup (ys.map V.str)) nr) (s5.dk.upd (s5.dk.neC nr) (s5.dk.neD nr))
        have s7 := s6.move (Kp.new (o := .tup [.str "put", .ref r]) nT) (s6.dk.upd (s6.dk.neC nT) (s6.dk.neD nT))
        have nrT : r ≠ T := fun e => by rw [← e, updS] at nT; cases nT
        have en : ((Pc.put ys).n : Int) = 1 + v := by
          show ((ys.length : Nat) : Int) = 1 + v
          omega
        exact fin T (.put ys) (1 + v) y6 _ _ _ D1 D2 k1 k2 en.symm (by omega) s7 ⟨r, updS, updN nrT updS⟩ ⟨fun e => by rw [e] at hl; simp at hl; omega, fun z hz => s7.stAt.2.2.2 z (hp z hz)⟩ True.intro (fun rs e z hz => by cases e; exact hp z hz) (by omega)
    refine ⟨_, rfl, lenT s.baseAt ⟨_, _, rfl, rfl, _, rfl, ite2 (fun e2 => ?_) (fun e2 => iteF (put z6 z7 z8 _ _ _ _ (fun _ _ z => z) (fun _ _ z => z) (by omega) s))⟩⟩
    have hb0 : 0 < bs.length := by
      have q : (0 : Int) < ((bs.map V.str).length : Int) := of_decide_eq_true e2
      rw [List.length_map] at q
      omega
    refine ⟨_, rfl, c, D, ns, _, 3, rfl, s.dk, by omega, by decide, by decide, fun v H3 v0 v1 d3 fr3 => ⟨_, _, rfl, rfl, _, rfl, ite2 (fun e3 => ?_) (fun e3 => put z6 z7 z8 _ _ _ _ (fun _ _ z => z) (fun _ _ z => z) (by omega) (s.move (.fr fr3) d3))⟩⟩
    have s3 := s.move (.fr fr3) d3
    refine ⟨_, rfl, _, rfl, lenT s3.baseAt ⟨c, D, ns, _, _, rfl, s3.dk, by omega, by rw [List.length_map]; omega, by rw [List.length_map]; exact small100 (by omega), fun b H4 b0 b1 d4 fr4 => ?_⟩⟩
    rw [List.length_map] at b1
    obtain ⟨b, rfl⟩ := Int.eq_ofNat_of_zero_le b0
    have s4 := s3.move (.fr fr4) d4
    have mp := min2_pos hroom (show (0 : Int) < ((bs.map V.str).length : Int) - (b : Int) by rw [List.length_map]; omega)
    have ml := min2_eq (i := room) (j := ((bs.map V.str).length : Int) - (b : Int))
    refine ⟨_, rfl, _, rfl, _, rfl, lenT s4.baseAt ⟨_, rfl, _, _, rfl, rfl, _, _, rfl, c, D, ns, _, _, rfl, s4.dk, by omega, mp, small100 (by omega), fun v H5 v0 v1 d5 fr5 => ⟨_, _, rfl, rfl, ?_⟩⟩⟩
    have s5 := s4.move (.fr fr5) d5
    obtain ⟨v, rfl⟩ := Int.eq_ofNat_of_zero_le v0
    have hml : (bs.map V.str).length = bs.length := List.length_map ..
    have ev : (1 + (v : Int)) = ((1 + v : Nat) : Int) := by omega
    refine ⟨_, rfl, .inl ⟨rfl, _, sqL s5.hl⟩, _, rfl, _, rfl, by show (3 : Nat) ≤ sizeLine; decide, fun T nT => ?_⟩
    have s6 := s5.move (Kp.new (o := .tup [.str "take", .int (b : Int), .int (1 + (v : Int))]) nT) (s5.dk.upd (s5.dk.neC nT) (s5.dk.neD nT))
    exact fin T (.take b (1 + v)) (1 + (v : Int)) (some (.int (b : Int))) z8 _ _ _ _ (fun _ _ z => z) (fun _ _ z => z) ev (by omega) s6 (by show upd _ _ _ _ = some (.tup [.str "take", .int (b : Int), .int ((1 + v : Nat) : Int)]); rw [updS, ← ev]) (show 1 ≤ 1 + v by omega) (show b + (1 + v) ≤ bs.length by omega) (fun rs e => by cases e) (show ((1 + v : Nat) : Int) ≤ room by omega)
  · have hroom : room = 0 := by
      have : ¬ 0 < room := fun q => e (decide_eq_true q)
      omega
    subst hroom
    refine ⟨_, rfl, L, _, rfl, .inl ⟨sqL s.hl, fun a na => ?_⟩⟩
    have kk : Kp D H2 (upd H2 a (.tup (as.map V.ref))) := .new na
    refine k a ps _ ⟨as, updS, s.pr.mono (kk.tm s.dk)⟩ ⟨s.ok, by omega⟩ s.fit (by omega) s.sub (s.keep.trans kk) ((s.dk.le (by omega)).upd (s.dk.neC na) (s.dk.neD na))
end
end Fw

set_option Elab.async false
set_option linter.all false
set_option maxRecDepth 100000
set_option maxHeartbeats 4000000
namespace Fw
open PySem L2 RZ RT
/-! ### scripts cut and joined -/
def Pc.cut (l h : Nat) : Pc → Pc
  | .take b _ => .take (b + l) (h - l)
  | .put rs => .put ((rs.drop l).take (h - l))
def Pc.from (l : Nat) (p : Pc) : Pc := p.cut l p.n
def Pc.to (h : Nat) (p : Pc) : Pc := p.cut 0 h
def dr : Nat → List Pc → List Pc
  | _, [] => []
  | n, p :: ps => if p.n ≤ n then dr (n - p.n) ps else p.from n :: ps
def tk : Nat → List Pc → List Pc
  | _, [] => []
  | n, p :: ps => if p.n ≤ n then p :: tk (n - p.n) ps else if n = 0 then [] else [p.to n]
def sub (f : List Pc) : Pc → List Pc
  | .take b m => tk m (dr b f)
  | .put rs => [.put rs]
def join (f : List Pc) (ps : List Pc) : List Pc := (ps.map (sub f)).flatten
def Pos (ps : List Pc) : Prop := ∀ p ∈ ps, 1 ≤ p.n
theorem Pos.tail {p : Pc} {ps : List Pc} (h : Pos (p :: ps)) : Pos ps := fun q hq => h q (List.mem_cons_of_mem _ hq)
theorem Pos.head {p : Pc} {ps : List Pc} (h : Pos (p :: ps)) : 1 ≤ p.n := h p (List.mem_cons_self ..)
theorem Pos.of_ok {ps : List Pc} (h : ∀ p ∈ ps, p.ok) : Pos ps := fun p hp => Pc.one (h p hp)
theorem cut_n {p : Pc} {l h : Nat} (q : h ≤ p.n) : (p.cut l h).n = h - l := by
  cases p with
  | take b m => rfl
  | put rs =>
    show ((rs.drop l).take (h - l)).length = h - l
    rw [List.length_take, List.length_drop]
    have : h ≤ rs.length := q
    omega
theorem from_n {p : Pc} {l : Nat} : (p.from l).n = p.n - l := cut_n (Nat.le_refl _)
theorem to_n {p : Pc} {h : Nat} (q : h ≤ p.n) : (p.to h).n = h := by unfold Pc.to; rw [cut_n q]; rfl
theorem from_zero (p : Pc) : p.from 0 = p := by
  cases p with
  | take b m => rfl
  | put rs =>
    show Pc.put ((rs.drop 0).take (rs.length - 0)) = _
    rw [List.drop_zero, Nat.sub_zero, List.take_length]
theorem from_from (p : Pc) (a b : Nat) : (p.from a).from b = p.from (a + b) := by
  cases p with
  | take c m =>
    show Pc.take (c + a + b) (m - a - b) = Pc.take (c + (a + b)) (m - (a + b))
    rw [Nat.add_assoc, Nat.sub_sub]
  | put rs =>
    have e : ∀ (xs : List Str) (l : Nat), (xs.drop l).take (xs.length - l) = xs.drop l := fun xs l => List.take_of_length_le (by rw [List.length_drop]; exact Nat.le_refl _)
    show Pc.put ((((rs.drop a).take (rs.length - a)).drop b).take (((rs.drop a).take (rs.length - a)).length - b)) = Pc.put ((rs.drop (a + b)).take (rs.length - (a + b)))
    rw [e, e, e, List.drop_drop]
theorem to_to (p : Pc) {m n : Nat} (h : n ≤ m) : (p.to m).to n = p.to n := by
  cases p with
  | take c k => rfl
  | put rs =>
    show Pc.put ((((rs.drop 0).take (m - 0)).drop 0).take (n - 0)) = Pc.put ((rs.drop 0).take (n - 0))
    simp only [List.drop_zero, Nat.sub_zero]
    rw [List.take_take, Nat.min_eq_left h]
theorem from_to (p : Pc) {m n : Nat} (h : n ≤ m) (h2 : m ≤ p.n) : (p.to m).from n = (p.from n).to (m - n) := by
  cases p with
  | take c k =>
    show Pc.take (c + 0 + n) (m - 0 - n) = Pc.take (c + n + 0) (m - n - 0)
    simp
  | put rs =>
    have h2 : m ≤ rs.length := h2
    show Pc.put ((((rs.drop 0).take (m - 0)).drop n).take (((rs.drop 0).take (m - 0)).length - n)) = Pc.put ((((rs.drop n).take (rs.length - n)).drop 0).take (m - n - 0))
    simp only [List.drop_zero, Nat.sub_zero, List.length_take]
    rw [Nat.min_eq_left h2, List.drop_take, List.take_take, List.take_take, Nat.min_self, Nat.min_eq_left (by omega)]
theorem cut_eq (p : Pc) {l h : Nat} (h1 : l ≤ h) (h2 : h ≤ p.n) : p.cut l h = (p.from l).to (h - l) := by
  cases p with
  | take c k =>
    show Pc.take (c + l) (h - l) = Pc.take (c + l + 0) (h - l - 0)
    simp
  | put rs =>
    have h2 : h ≤ rs.length := h2
    show Pc.put ((rs.drop l).take (h - l)) = Pc.put ((((rs.drop l).take (rs.length - l)).drop 0).take (h - l - 0))
    simp only [List.drop_zero, Nat.sub_zero]
    rw [List.take_take, Nat.min_eq_left (by omega)]
theorem to_all (p : Pc) : p.to p.n = p := from_zero p
theorem tk_zero {ps : List Pc} (h : Pos ps) : tk 0 ps = [] := by
  cases ps with
  | nil => rfl
  | cons p ps =>
    have := h.head
    show (if p.n ≤ 0 then _ else if 0 = 0 then [] else _) = _
    rw [if_neg (by omega), if_pos rfl]
theorem dr_zero {ps : List Pc} (h : Pos ps) : dr 0 ps = ps := by
  cases ps with
  | nil => rfl
  | cons p ps =>
    have := h.head
    show (if p.n ≤ 0 then _ else _) = _
    rw [if_neg (by omega), from_zero]
theorem tk_cons_le {n : Nat} {p : Pc} {ps : List Pc} (h : p.n ≤ n) : tk n (p :: ps) = p :: tk (n - p.n) ps := if_pos h
theorem tk_cons_gt {n : Nat} {p : Pc} {ps : List Pc} (h : ¬ p.n ≤ n) (h0 : n ≠ 0) : tk n (p :: ps) = [p.to n] := (if_neg h).trans (if_neg h0)
theorem tk_cons_z {p : Pc} {ps : List Pc} (h : ¬ p.n ≤ 0) : tk 0 (p :: ps) = [] := (if_neg h).trans (if_pos rfl)
theorem dr_cons_le {n : Nat} {p : Pc} {ps : List Pc} (h : p.n ≤ n) : dr n (p :: ps) = dr (n - p.n) ps := if_pos h
theorem dr_cons_gt {n : Nat} {p : Pc} {ps : List Pc} (h : ¬ p.n ≤ n) : dr n (p :: ps) = p.from n :: ps := if_neg h
theorem total_cons (p : Pc) (ps : List Pc) : total (p :: ps) = p.n + total ps := rfl
theorem total_append (xs ys : List Pc) : total (xs ++ ys) = total xs + total ys := by
  unfold total
  rw [List.map_append, List.sum_append]
theorem tk_append_le {ys : List Pc} : ∀ {n : Nat} {xs : List Pc}, total xs ≤ n → tk n (xs ++ ys) = xs ++ tk (n - total xs) ys
  | n, [], _ => rfl
  | n, x :: xs, h => by
    rw [total_cons] at h
    rw [List.cons_append, tk_cons_le (by omega), tk_append_le (by omega), total_cons, List.cons_append, Nat.sub_sub]
theorem tk_append_gt {ys : List Pc} : ∀ {n : Nat} {xs : List Pc}, ¬ total xs ≤ n → tk n (xs ++ ys) = tk n xs
  | n, [], h => absurd (Nat.zero_le _) h
  | n, x :: xs, h => by
    rw [total_cons] at h
    rw [List.cons_append]
    by_cases q : x.n ≤ n
    · rw [tk_cons_le q, tk_cons_le q, tk_append_gt (by omega)]
    · by_cases z : n = 0
      · subst z
        rw [tk_cons_z q, tk_cons_z q]
      · rw [tk_cons_gt q z, tk_cons_gt q z]
theorem dr_append_le {ys : List Pc} : ∀ {n : Nat} {xs : List Pc}, total xs ≤ n → dr n (xs ++ ys) = dr (n - total xs) ys
  | n, [], _ => rfl
  | n, x :: xs, h => by
    rw [total_cons] at h
    rw [List.cons_append, dr_cons_le (by omega), dr_append_le (by omega), total_cons, Nat.sub_sub]
theorem dr_append_gt {ys : List Pc} : ∀ {n : Nat} {xs : List Pc}, ¬ total xs ≤ n → dr n (xs ++ ys) = dr n xs ++ ys
  | n, [], h => absurd (Nat.zero_le _) h
  | n, x :: xs, h => by
    rw [total_cons] at h
    rw [List.cons_append]
    by_cases q : x.n ≤ n
    · rw [dr_cons_le q, dr_cons_le q, dr_append_gt (by omega)]
    · rw [dr_cons_gt q, dr_cons_gt q, List.cons_append]
theorem tk_tk : ∀ {m n : Nat} {xs : List Pc}, n ≤ m → tk n (tk m xs) = tk n xs
  | m, n, [], _ => rfl
  | m, n, x :: xs, h => by
    by_cases q : x.n ≤ n
    · rw [tk_cons_le (by omega), tk_cons_le q, tk_cons_le q, tk_tk (by omega)]
    · by_cases q2 : x.n ≤ m
      · rw [tk_cons_le q2]
        by_cases z : n = 0
        · subst z
          rw [tk_cons_z q, tk_cons_z q]
        · rw [tk_cons_gt q z, tk_cons_gt q z]
      · by_cases zm : m = 0
        · subst zm
          have : n = 0 := by omega
          subst this
          rw [tk_cons_z q]
          rfl
        · rw [tk_cons_gt q2 zm]
          have e : (x.to m).n = m := to_n (by omega)
          by_cases e2 : n = m
          · subst e2
            rw [tk_cons_le (by omega), tk_cons_gt q zm]
            rfl
          · by_cases z : n = 0
            · subst z
              rw [tk_cons_z (by omega), tk_cons_z q]
            · rw [tk_cons_gt (by omega) z, tk_cons_gt q z, to_to x h]
theorem dr_tk : ∀ {m n : Nat} {xs : List Pc}, n < m → dr n (tk m xs) = tk (m - n) (dr n xs)
  | m, n, [], _ => rfl
  | m, n, x :: xs, h => by
    by_cases q : x.n ≤ n
    · rw [tk_cons_le (by omega), dr_cons_le q, dr_cons_le q, dr_tk (by omega)]
      congr 1
      omega
    · by_cases q2 : x.n ≤ m
      · rw [tk_cons_le q2, dr_cons_gt q, dr_cons_gt q, tk_cons_le (by rw [from_n]; omega), from_n]
        congr 2
        omega
      · have e : (x.to m).n = m := to_n (by omega)
        rw [tk_cons_gt q2 (by omega), dr_cons_gt (by omega), dr_cons_gt q, tk_cons_gt (by rw [from_n]; omega) (by omega), from_to x (by omega) (by omega)]
theorem dr_dr : ∀ {a b : Nat} {xs : List Pc}, dr b (dr a xs) = dr (a + b) xs
  | a, b, [] => rfl
  | a, b, x :: xs => by
    by_cases q : x.n ≤ a
    · rw [dr_cons_le q, dr_cons_le (by omega), dr_dr]
      congr 1
      omega
    · rw [dr_cons_gt q]
      by_cases q2 : x.n ≤ a + b
      · rw [dr_cons_le (by rw [from_n]; omega), dr_cons_le q2, from_n]
        congr 1
        omega
      · rw [dr_cons_gt (by rw [from_n]; omega), dr_cons_gt q2, from_from]
theorem total_dr : ∀ {n : Nat} {xs : List Pc}, total (dr n xs) = total xs - n
  | n, [] => (Nat.zero_sub _).symm
  | n, x :: xs => by
    by_cases q : x.n ≤ n
    · rw [dr_cons_le q, total_dr, total_cons]; omega
    · rw [dr_cons_gt q, total_cons, total_cons, from_n]; omega
theorem total_tk : ∀ {n : Nat} {xs : List Pc}, n ≤ total xs → total (tk n xs) = n
  | n, [], h => by
    have e : total ([] : List Pc) = 0 := rfl
    show total [] = n
    omega
  | n, x :: xs, h => by
    rw [total_cons] at h
    by_cases q : x.n ≤ n
    · rw [tk_cons_le q, total_cons, total_tk (by omega)]; omega
    · by_cases z : n = 0
      · subst z
        rw [tk_cons_z q]
        rfl
      · rw [tk_cons_gt q z, total_cons, to_n (by omega)]
        rfl
/-- what all pieces keep, cut pieces too -/
theorem keep_dr {R : Pc → Prop} (hc : ∀ (p : Pc) (l h : Nat), l < h → h ≤ p.n → R p → R (p.cut l h)) : ∀ {n : Nat} {xs : List Pc}, (∀ p ∈ xs, R p) → ∀ p ∈ dr n xs, R p
  | n, [], h, p, hp => h p hp
  | n, x :: xs, h, p, hp => by
    by_cases q : x.n ≤ n
    · rw [dr_cons_le q] at hp
      exact keep_dr hc (fun y hy => h y (List.mem_cons_of_mem _ hy)) p hp
    · rw [dr_cons_gt q] at hp
      rcases List.mem_cons.mp hp with e | hp
      · rw [e]
        exact hc x n x.n (by omega) (Nat.le_refl _) (h x (List.mem_cons_self ..))
      · exact h p (List.mem_cons_of_mem _ hp)
theorem keep_tk {R : Pc → Prop} (hc : ∀ (p : Pc) (l h : Nat), l < h → h ≤ p.n → R p → R (p.cut l h)) : ∀ {n : Nat} {xs : List Pc}, (∀ p ∈ xs, R p) → ∀ p ∈ tk n xs, R p
  | n, [], h, p, hp => h p hp
  | n, x :: xs, h, p, hp => by
    by_cases q : x.n ≤ n
    · rw [tk_cons_le q] at hp
      rcases List.mem_cons.mp hp with e | hp
      · rw [e]
        exact h x (List.mem_cons_self ..)
      · exact keep_tk hc (fun y hy => h y (List.mem_cons_of_mem _ hy)) p hp
    · by_cases z : n = 0
      · subst z
        rw [tk_cons_z q] at hp
        cases hp
      · rw [tk_cons_gt q z] at hp
        rw [List.mem_singleton.mp hp]
        exact hc x 0 n (by omega) (by omega) (h x (List.mem_cons_self ..))
theorem keep_join {R : Pc → Prop} (hc : ∀ (p : Pc) (l h : Nat), l < h → h ≤ p.n → R p → R (p.cut l h)) {f ps : List Pc} (hf : ∀ p ∈ f, R p) (hp : ∀ p ∈ ps, ∀ rs, p = .put rs → R p) : ∀ p ∈ join f ps, R p := by
  intro p h
  obtain ⟨l, hl, hq⟩ := List.mem_flatten.mp h
  obtain ⟨x, hx, rfl⟩ := List.mem_map.mp hl
  cases x with
  | take b m => exact keep_tk hc (keep_dr hc hf) p hq
  | put rs =>
    rw [List.mem_singleton.mp hq]
    exact hp _ hx rs rfl
theorem cut_ok (p : Pc) (l h : Nat) (q : l < h) (q2 : h ≤ p.n) (o : p.ok) : (p.cut l h).ok := by
  cases p with
  | take b m => show 1 ≤ h - l; omega
  | put rs =>
    have q2 : h ≤ rs.length := q2
    refine ⟨fun e => ?_, fun z hz => o.2 z (List.mem_of_mem_drop (List.mem_of_mem_take hz))⟩
    have := congrArg List.length e
    rw [List.length_take, List.length_drop] at this
    simp at this
    omega
theorem cut_fits {L : Nat} (p : Pc) (l h : Nat) (q : l < h) (q2 : h ≤ p.n) (o : p.fits L) : (p.cut l h).fits L := by
  cases p with
  | take b m =>
    have o : b + m ≤ L := o
    have q2 : h ≤ m := q2
    show b + l + (h - l) ≤ L
    omega
  | put rs => exact True.intro
theorem cut_pos (p : Pc) (l h : Nat) (q : l < h) (q2 : h ≤ p.n) (o : 1 ≤ p.n) : 1 ≤ (p.cut l h).n := by rw [cut_n q2]; omega
theorem join_cons (f : List Pc) (p : Pc) (ps : List Pc) : join f (p :: ps) = sub f p ++ join f ps := rfl
theorem total_sub {f : List Pc} {p : Pc} (h : p.fits (total f)) : total (sub f p) = p.n := by
  cases p with
  | take b m =>
    have h : b + m ≤ total f := h
    exact total_tk (by rw [total_dr]; omega)
  | put rs => rfl
theorem total_join {f : List Pc} : ∀ {ps : List Pc}, (∀ p ∈ ps, p.fits (total f)) → total (join f ps) = total ps
  | [], _ => rfl
  | p :: ps, h => by rw [join_cons, total_append, total_sub (h p (List.mem_cons_self ..)), total_join (fun q hq => h q (List.mem_cons_of_mem _ hq)), total_cons]
theorem tk_join {f : List Pc} (pf : Pos f) : ∀ {n : Nat} {ps : List Pc}, (∀ p ∈ ps, p.fits (total f)) → tk n (join f ps) = join f (tk n ps)
  | n, [], _ => rfl
  | n, p :: ps, h => by
    have hp := h p (List.mem_cons_self ..)
    have ht := total_sub hp
    rw [join_cons]
    by_cases q : p.n ≤ n
    · rw [tk_append_le (by omega), tk_cons_le q, join_cons, ht, tk_join pf fun q hq => h q (List.mem_cons_of_mem _ hq)]
    · rw [tk_append_gt (by omega)]
      by_cases z : n = 0
      · subst z
        rw [tk_cons_z q]
        refine tk_zero fun x hx => ?_
        cases p with
        | take b m => exact keep_tk cut_pos (keep_dr cut_pos pf) x hx
        | put rs =>
          rw [List.mem_singleton.mp hx]
          show 1 ≤ rs.length
          have q : ¬ rs.length ≤ 0 := q
          omega
      · rw [tk_cons_gt q z, join_cons]
        show _ = _ ++ []
        rw [List.append_nil]
        cases p with
        | take b m =>
          have q : ¬ m ≤ n := q
          show tk n (tk m (dr b f)) = tk (n - 0) (dr (b + 0) f)
          rw [tk_tk (by omega)]
          rfl
        | put rs =>
          show tk n [.put rs] = _
          rw [tk_cons_gt q z]
          rfl
theorem dr_join {f : List Pc} (pf : Pos f) : ∀ {n : Nat} {ps : List Pc}, (∀ p ∈ ps, p.fits (total f)) → dr n (join f ps) = join f (dr n ps)
  | n, [], _ => rfl
  | n, p :: ps, h => by
    have hp := h p (List.mem_cons_self ..)
    have ht := total_sub hp
    rw [join_cons]
    by_cases q : p.n ≤ n
    · rw [dr_append_le (by omega), dr_cons_le q, ht, dr_join pf fun q hq => h q (List.mem_cons_of_mem _ hq)]
    · rw [dr_append_gt (by omega), dr_cons_gt q, join_cons]
      congr 1
      cases p with
      | take b m =>
        have q : ¬ m ≤ n := q
        show dr n (tk m (dr b f)) = tk (m - n) (dr (b + n) f)
        rw [dr_tk (by omega), dr_dr]
      | put rs =>
        show dr n [.put rs] = _
        rw [dr_cons_gt q]
        rfl
theorem join_append (f xs ys : List Pc) : join f (xs ++ ys) = join f xs ++ join f ys := by
  unfold join
  rw [List.map_append, List.flatten_append]
theorem join_join {f g : List Pc} (pf : Pos f) (hg : ∀ p ∈ g, p.fits (total f)) : ∀ {ps : List Pc}, join (join f g) ps = join f (join g ps)
  | [] => rfl
  | p :: ps => by
    rw [join_cons, join_cons, join_append, join_join pf hg]
    congr 1
    cases p with
    | take b m =>
      show tk m (dr b (join f g)) = join f (tk m (dr b g))
      rw [dr_join pf hg, tk_join pf (keep_dr (fun p l h => cut_fits p l h) hg)]
    | put rs => rfl
theorem mk_cut {bs : List Str} {p : Pc} {l h : Nat} (q : l ≤ h) (q2 : h ≤ p.n) : (p.cut l h).mk bs = ((p.mk bs).drop l).take (h - l) := by
  cases p with
  | take b m =>
    have q2 : h ≤ m := q2
    show (bs.drop (b + l)).take (h - l) = (((bs.drop b).take m).drop l).take (h - l)
    rw [List.drop_take, List.drop_drop, List.take_take, Nat.min_eq_left (by omega)]
  | put rs => rfl
theorem makes_cons (bs : List Str) (p : Pc) (ps : List Pc) : makes bs (p :: ps) = p.mk bs ++ makes bs ps := rfl
theorem makes_append (bs : List Str) (xs ys : List Pc) : makes bs (xs ++ ys) = makes bs xs ++ makes bs ys := by
  unfold makes
  rw [List.map_append, List.flatten_append]
theorem makes_dr {bs : List Str} : ∀ {n : Nat} {xs : List Pc}, (∀ p ∈ xs, p.fits bs.length) → makes bs (dr n xs) = (makes bs xs).drop n
  | n, [], _ => by show [] = List.drop n []; rw [List.drop_nil]
  | n, x :: xs, h => by
    have hx := mk_len (h x (List.mem_cons_self ..))
    have ht : ∀ p ∈ xs, p.fits bs.length := fun p hp => h p (List.mem_cons_of_mem _ hp)
    rw [makes_cons]
    by_cases q : x.n ≤ n
    · rw [dr_cons_le q, makes_dr ht, List.drop_append, hx, List.drop_of_length_le (l := x.mk bs) (by omega), List.nil_append]
    · rw [dr_cons_gt q, makes_cons, List.drop_append, hx, show n - x.n = 0 by omega, List.drop_zero]
      congr 1
      unfold Pc.from
      rw [mk_cut (by omega) (Nat.le_refl _), List.take_of_length_le (by rw [List.length_drop]; omega)]
theorem makes_tk {bs : List Str} : ∀ {n : Nat} {xs : List Pc}, (∀ p ∈ xs, p.fits bs.length) → makes bs (tk n xs) = (makes bs xs).take n
  | n, [], _ => by show [] = List.take n []; rw [List.take_nil]
  | n, x :: xs, h => by
    have hx := mk_len (h x (List.mem_cons_self ..))
    have ht : ∀ p ∈ xs, p.fits bs.length := fun p hp => h p (List.mem_cons_of_mem _ hp)
    rw [makes_cons]
    by_cases q : x.n ≤ n
    · rw [tk_cons_le q, makes_cons, makes_tk ht, List.take_append, hx, List.take_of_length_le (l := x.mk bs) (by omega)]
    · rw [List.take_append, hx, show n - x.n = 0 by omega, List.take_zero, List.append_nil]
      by_cases z : n = 0
      · subst z
        rw [tk_cons_z q, List.take_zero]
        rfl
      · rw [tk_cons_gt q z, makes_cons]
        show (x.cut 0 n).mk bs ++ [] = _
        rw [List.append_nil, mk_cut (by omega) (by omega), List.drop_zero, Nat.sub_zero]
theorem makes_join {bs : List Str} {f : List Pc} (hf : ∀ p ∈ f, p.fits bs.length) : ∀ {ps : List Pc}, makes bs (join f ps) = makes (makes bs f) ps
  | [] => rfl
  | p :: ps => by
    rw [join_cons, makes_append, makes_cons, makes_join hf]
    congr 1
    cases p with
    | take b m =>
      show makes bs (tk m (dr b f)) = ((makes bs f).drop b).take m
      rw [makes_tk (keep_dr (fun p l h => cut_fits p l h) hf), makes_dr hf]
    | put rs =>
      show rs ++ [] = rs
      rw [List.append_nil]
/-- the join of two right scripts is a right script -/
theorem join_ok {f ps : List Pc} (hf : ScOk f) (hp : ScOk ps) (fit : ∀ p ∈ ps, p.fits (total f)) : ScOk (join f ps) :=
  ⟨keep_join (fun p l h => cut_ok p l h) hf.ok (fun p h _ _ => hp.ok p h), by rw [total_join fit]; exact hp.few⟩
theorem join_fits {f ps : List Pc} {L : Nat} (hf : ∀ p ∈ f, p.fits L) : ∀ p ∈ join f ps, p.fits L :=
  keep_join (fun p l h => cut_fits p l h) hf (fun p _ rs e => by rw [e]; exact True.intro)
/-! ### the loop of part_of -/
def po (b e : Nat) : Nat → List Pc → List Pc
  | _, [] => []
  | f, p :: ps => (if max b f < min e (f + p.n) then [p.cut (max b f - f) (min e (f + p.n) - f)] else []) ++ po b e (f + p.n) ps
theorem po_eq {b e : Nat} (hbe : b ≤ e) : ∀ {f : Nat} {ps : List Pc}, Pos ps → po b e f ps = tk (e - max b f) (dr (b - f) ps)
  | f, [], _ => rfl
  | f, p :: ps, h => by
    have p1 := h.head
    have ih := po_eq hbe (f := f + p.n) h.tail
    show _ ++ po b e (f + p.n) ps = _
    rw [ih]
    by_cases q : p.n ≤ b - f
    · rw [dr_cons_le q, if_neg (by omega), List.nil_append]
      congr 1
      · omega
      · congr 1
        omega
    · rw [dr_cons_gt q, show b - (f + p.n) = 0 by omega, dr_zero h.tail]
      have en : (p.from (b - f)).n = p.n - (b - f) := from_n
      by_cases q2 : f + p.n ≤ e
      · rw [tk_cons_le (by omega), if_pos (by omega), List.cons_append, List.nil_append]
        congr 1
        · rw [show min e (f + p.n) - f = p.n by omega, show max b f - f = b - f by omega]
          rfl
        · congr 1
          omega
      · rw [show e - max b (f + p.n) = 0 by omega, tk_zero h.tail, List.append_nil]
        by_cases q3 : e - max b f = 0
        · rw [q3, tk_cons_z (by omega), if_neg (by omega)]
        · rw [tk_cons_gt (by omega) q3, if_pos (by omega), cut_eq p (by omega) (by omega)]
          rw [show max b f - f = b - f by omega, show min e (f + p.n) - f - (b - f) = e - max b f by omega]
theorem part_eq {b m : Nat} {ps : List Pc} (h : Pos ps) : po b (b + m) 0 ps = tk m (dr b ps) := by
  rw [po_eq (by omega) h, show b + m - max b 0 = m by omega]
  rfl
end Fw

set_option Elab.async false
set_option linter.all false
set_option maxRecDepth 100000
set_option maxHeartbeats 4000000
namespace Fw
open PySem L2 RZ RT
/-! ### lists of addresses, and what stands there -/
def LsAt {α : Type} (R : Addr → α → Prop) (as : List Addr) (xs : List α) : Prop := as.length = xs.length ∧ ∀ (i : Nat) (a : Addr) (x : α), as[i]? = some a → xs[i]? = some x → R a x
section
variable {α : Type} {R R' : Addr → α → Prop} {as bs : List Addr} {xs ys : List α}
theorem LsAt.nil : LsAt R [] [] := ⟨rfl, fun i a p h => by cases h⟩
theorem LsAt.mono (h : LsAt R as xs) (m : ∀ a x, R a x → R' a x) : LsAt R' as xs := ⟨h.1, fun i a x h1 h2 => m _ _ (h.2 i a x h1 h2)⟩
theorem LsAt.append (h : LsAt R as xs) (h2 : LsAt R bs ys) : LsAt R (as ++ bs) (xs ++ ys) := by
  refine ⟨by rw [List.length_append, List.length_append, h.1, h2.1], fun i a m e1 e2 => ?_⟩
  by_cases hi : i < as.length
  · rw [List.getElem?_append_left hi] at e1
    rw [List.getElem?_append_left (by rw [← h.1]; exact hi)] at e2
    exact h.2 i a m e1 e2
  · rw [List.getElem?_append_right (by omega)] at e1
    rw [List.getElem?_append_right (by rw [← h.1]; omega), ← h.1] at e2
    exact h2.2 _ a m e1 e2
theorem LsAt.one {a : Addr} {x : α} (h : R a x) : LsAt R [a] [x] := ⟨rfl, fun i b y e1 e2 => by
  cases i with
  | zero => cases Option.some.inj e1; cases Option.some.inj e2; exact h
  | succ i => cases e1⟩
theorem LsAt.snoc {a : Addr} {x : α} (h : LsAt R as xs) (h2 : R a x) : LsAt R (as ++ [a]) (xs ++ [x]) := h.append (.one h2)
theorem LsAt.get {i : Nat} {a : Addr} (h : LsAt R as xs) (e : as[i]? = some a) : ∃ x, xs[i]? = some x ∧ R a x := by
  have hi : i < xs.length := by rw [← h.1]; exact (List.getElem?_eq_some_iff.mp e).1
  exact ⟨xs[i], List.getElem?_eq_getElem hi, h.2 i a _ e (List.getElem?_eq_getElem hi)⟩
theorem LsAt.at {i : Nat} {x : α} (h : LsAt R as xs) (e : xs[i]? = some x) : ∃ a, as[i]? = some a ∧ R a x := by
  have hi : i < as.length := by rw [h.1]; exact (List.getElem?_eq_some_iff.mp e).1
  exact ⟨as[i], List.getElem?_eq_getElem hi, h.2 i _ x (List.getElem?_eq_getElem hi) e⟩
theorem LsAt.slice (h : LsAt R as xs) (b m : Nat) : LsAt R ((as.drop b).take m) ((xs.drop b).take m) := by
  refine ⟨by rw [List.length_take, List.length_take, List.length_drop, List.length_drop, h.1], fun i a x e1 e2 => ?_⟩
  rw [List.getElem?_take] at e1 e2
  by_cases q : i < m
  · rw [if_pos q, List.getElem?_drop] at e1 e2
    exact h.2 _ a x e1 e2
  · rw [if_neg q] at e1
    cases e1
theorem LsAt.unsnoc {x : α} (h : LsAt R as (xs ++ [x])) : ∃ as' a, as = as' ++ [a] ∧ LsAt R as' xs ∧ R a x := by
  have hl : as.length = xs.length + 1 := by rw [h.1, List.length_append]; rfl
  have hn : as ≠ [] := fun e => by rw [e] at hl; simp at hl
  refine ⟨as.dropLast, as.getLast hn, (List.dropLast_concat_getLast hn).symm, ⟨by rw [List.length_dropLast]; omega, fun i a y e1 e2 => ?_⟩, ?_⟩
  · have hi : i < xs.length := (List.getElem?_eq_some_iff.mp e2).1
    rw [List.getElem?_dropLast, if_pos (by omega)] at e1
    exact h.2 i a y e1 (by rw [List.getElem?_append_left hi]; exact e2)
  · refine h.2 xs.length _ x ?_ (by rw [List.getElem?_append_right (Nat.le_refl _), Nat.sub_self]; rfl)
    rw [List.getElem?_eq_getElem (by omega), List.getLast_eq_getElem]
    congr 2
    omega
end
theorem map_ref_get {as : List Addr} {i : Nat} {x : V} (hx : (as.map V.ref)[i]? = some x) : ∃ a, x = .ref a ∧ as[i]? = some a := by
  rw [List.getElem?_map] at hx
  cases q : as[i]? with
  | none => rw [q] at hx; cases hx
  | some a => rw [q] at hx; exact ⟨a, (Option.some.inj hx).symm, rfl⟩
theorem atI_ref {as : List Addr} {i : Nat} {a : Addr} (h : as[i]? = some a) : atI (as.map V.ref) (i : Int) = some (.ref a) := atI_nat (by rw [List.getElem?_map, h]; rfl)
def PrAt (H : Hp) (a : Addr) (s : Nat × Nat) : Prop := H a = some (.tup [.int (s.1 : Int), .int (s.2 : Int)])
theorem PrAt.mono {H H' : Hp} (t : TM H H') (a : Addr) (s : Nat × Nat) (h : PrAt H a s) : PrAt H' a s := t _ _ h
theorem PcAt.mono' {H H' : Hp} (t : TM H H') (a : Addr) (p : Pc) (h : PcAt H a p) : PcAt H' a p := h.mono t
/-! ### spots and their groups -/
def run (k : Nat) : Nat → Nat → List (Nat × Nat)
  | _, 0 => []
  | lo, n + 1 => (k, lo) :: run k (lo + 1) n
def spots : Nat → List Pc → List (Nat × Nat)
  | _, [] => []
  | k, p :: ps => run k 0 p.n ++ spots (k + 1) ps
theorem run_len (k : Nat) : ∀ (n lo : Nat), (run k lo n).length = n
  | 0, _ => rfl
  | n + 1, lo => by show (run k (lo + 1) n).length + 1 = _; rw [run_len k n]
theorem run_get (k : Nat) : ∀ (n lo j : Nat), j < n → (run k lo n)[j]? = some (k, lo + j)
  | n + 1, lo, 0, _ => rfl
  | n + 1, lo, j + 1, h => by
    show (run k (lo + 1) n)[j]? = _
    rw [run_get k n (lo + 1) j (by omega)]
    congr 2
    omega
theorem run_snoc (k : Nat) : ∀ (n lo : Nat), run k lo (n + 1) = run k lo n ++ [(k, lo + n)]
  | 0, lo => rfl
  | n + 1, lo => by
    show (k, lo) :: run k (lo + 1) (n + 1) = (k, lo) :: (run k (lo + 1) n ++ [(k, lo + (n + 1))])
    rw [run_snoc k n (lo + 1), show lo + 1 + n = lo + (n + 1) by omega]
theorem run_drop (k : Nat) : ∀ (b n lo : Nat), (run k lo n).drop b = run k (lo + b) (n - b)
  | 0, n, lo => rfl
  | b + 1, 0, lo => by
    rw [Nat.zero_sub]
    rfl
  | b + 1, n + 1, lo => by
    show (run k (lo + 1) n).drop b = _
    rw [run_drop k b n (lo + 1), show n + 1 - (b + 1) = n - b by omega, show lo + 1 + b = lo + (b + 1) by omega]
theorem run_take (k : Nat) : ∀ (m n lo : Nat), (run k lo n).take m = run k lo (min m n)
  | 0, n, lo => by rw [List.take_zero, Nat.zero_min]; rfl
  | m + 1, 0, lo => by rw [Nat.min_zero]; rfl
  | m + 1, n + 1, lo => by
    rw [show min (m + 1) (n + 1) = min m n + 1 by omega]
    show (k, lo) :: (run k (lo + 1) n).take m = (k, lo) :: run k (lo + 1) (min m n)
    rw [run_take k m n]
theorem spots_snoc (p : Pc) : ∀ (k : Nat) (ps : List Pc), spots k (ps ++ [p]) = spots k ps ++ run (k + ps.length) 0 p.n
  | k, [] => by show run k 0 p.n ++ [] = _; rw [List.append_nil]; rfl
  | k, q :: ps => by
    show run k 0 q.n ++ spots (k + 1) (ps ++ [p]) = run k 0 q.n ++ spots (k + 1) ps ++ _
    rw [spots_snoc p (k + 1) ps, List.append_assoc, List.length_cons, show k + 1 + ps.length = k + (ps.length + 1) by omega]
theorem spots_len : ∀ (k : Nat) (ps : List Pc), (spots k ps).length = total ps
  | _, [] => rfl
  | k, p :: ps => by
    show (run k 0 p.n ++ spots (k + 1) ps).length = _
    rw [List.length_append, run_len, spots_len, total_cons]
theorem run_mem {k : Nat} : ∀ {n lo : Nat} {s : Nat × Nat}, s ∈ run k lo n → s.1 = k ∧ lo ≤ s.2 ∧ s.2 < lo + n
  | n + 1, lo, s, h => by
    rcases List.mem_cons.mp (show s ∈ (k, lo) :: run k (lo + 1) n from h) with e | h
    · rw [e]
      exact ⟨rfl, Nat.le_refl _, by show lo < lo + (n + 1); omega⟩
    · obtain ⟨h1, h2, h3⟩ := run_mem h
      exact ⟨h1, by omega, by omega⟩
theorem spots_mem : ∀ {k : Nat} {ps : List Pc} {s : Nat × Nat}, s ∈ spots k ps → k ≤ s.1 ∧ ∃ p, ps[s.1 - k]? = some p ∧ s.2 < p.n
  | k, p :: ps, s, h => by
    rcases List.mem_append.mp (show s ∈ run k 0 p.n ++ spots (k + 1) ps from h) with h | h
    · obtain ⟨h1, h2, h3⟩ := run_mem h
      rw [h1, Nat.sub_self]
      exact ⟨Nat.le_refl _, p, rfl, by omega⟩
    · obtain ⟨h1, q, h2, h3⟩ := spots_mem h
      refine ⟨by omega, q, ?_, h3⟩
      rw [show s.1 - k = (s.1 - (k + 1)) + 1 by omega]
      exact h2
/-- places of one number follow one another -/
def Cq (l : List (Nat × Nat)) : Prop := ∀ (j : Nat) (a b : Nat × Nat), l[j]? = some a → l[j + 1]? = some b → a.1 = b.1 → b.2 = a.2 + 1
theorem spots_cq : ∀ (k : Nat) (ps : List Pc), Cq (spots k ps)
  | _, [] => fun j a b h => by cases h
  | k, p :: ps => by
    intro j a b h1 h2 e
    have h1 : (run k 0 p.n ++ spots (k + 1) ps)[j]? = some a := h1
    have h2 : (run k 0 p.n ++ spots (k + 1) ps)[j + 1]? = some b := h2
    have hl := run_len k p.n 0
    by_cases q : j + 1 < p.n
    · rw [List.getElem?_append_left (by omega), run_get _ _ _ _ (by omega)] at h1
      rw [List.getElem?_append_left (by omega), run_get _ _ _ _ q] at h2
      cases Option.some.inj h1
      cases Option.some.inj h2
      show 0 + (j + 1) = 0 + j + 1
      omega
    · rw [List.getElem?_append_right (by omega)] at h2
      have hb := (spots_mem (List.mem_of_getElem? h2)).1
      by_cases q2 : j < p.n
      · rw [List.getElem?_append_left (by omega), run_get _ _ _ _ q2] at h1
        cases Option.some.inj h1
        have e : k = b.1 := e
        omega
      · rw [List.getElem?_append_right (by omega)] at h1
        rw [hl] at h1 h2
        exact spots_cq (k + 1) ps (j - p.n) a b h1 (by rw [show j - p.n + 1 = j + 1 - p.n by omega]; exact h2) e
theorem Cq.slice {l : List (Nat × Nat)} (h : Cq l) (b m : Nat) : Cq ((l.drop b).take m) := by
  intro j x y h1 h2 e
  rw [List.getElem?_take] at h1 h2
  by_cases q : j + 1 < m
  · rw [if_pos (by omega), List.getElem?_drop] at h1
    rw [if_pos q, List.getElem?_drop] at h2
    exact h (b + j) x y h1 h2 e
  · rw [if_neg q] at h2
    cases h2
abbrev Gp := Nat × Nat × Nat
def step (acc : List Gp) (s : Nat × Nat) : List Gp := match acc.getLast? with
  | some g => if g.1 = s.1 then acc.dropLast ++ [(g.1, g.2.1, s.2 + 1)] else acc ++ [(s.1, s.2, s.2 + 1)]
  | none => acc ++ [(s.1, s.2, s.2 + 1)]
def grp (l : List (Nat × Nat)) : List Gp := l.foldl step []
theorem step_same (init : List Gp) (i lo hi pl : Nat) : step (init ++ [(i, lo, hi)]) (i, pl) = init ++ [(i, lo, pl + 1)] := by
  unfold step
  rw [List.getLast?_concat]
  show (if i = i then _ else _) = _
  rw [if_pos rfl, List.dropLast_concat]
theorem step_new (init : List Gp) (i k lo hi pl : Nat) (h : i ≠ k) : step (init ++ [(i, lo, hi)]) (k, pl) = init ++ [(i, lo, hi)] ++ [(k, pl, pl + 1)] := by
  unfold step
  rw [List.getLast?_concat]
  show (if i = k then _ else _) = _
  rw [if_neg h]
theorem step_nil (s : Nat × Nat) : step [] s = [(s.1, s.2, s.2 + 1)] := rfl
theorem grp_snoc {l : List (Nat × Nat)} {j : Nat} {s : Nat × Nat} (h : l[j]? = some s) : grp (l.take (j + 1)) = step (grp (l.take j)) s := by
  unfold grp
  rw [List.take_add_one, h, List.foldl_append]
  rfl
/-- the last group, behind j spots -/
theorem grp_inv {l : List (Nat × Nat)} (hc : Cq l) : ∀ j, j < l.length → ∃ init i lo pl, grp (l.take (j + 1)) = init ++ [(i, lo, pl + 1)] ∧ lo ≤ pl ∧ l[j]? = some (i, pl)
  | 0, h => by
    have e : l[0]? = some l[0] := List.getElem?_eq_getElem h
    refine ⟨[], l[0].1, l[0].2, l[0].2, ?_, Nat.le_refl _, e⟩
    rw [grp_snoc e, List.take_zero]
    rfl
  | j + 1, h => by
    obtain ⟨init, i, lo, pl, h1, h2, h3⟩ := grp_inv hc j (by omega)
    have e : l[j + 1]? = some l[j + 1] := List.getElem?_eq_getElem h
    by_cases q : i = l[j + 1].1
    · have c := hc j _ _ h3 e q
      refine ⟨init, i, lo, l[j + 1].2, ?_, by have : l[j + 1].2 = pl + 1 := c; omega, ?_⟩
      · rw [grp_snoc e, h1, show l[j + 1] = (i, l[j + 1].2) by rw [q], step_same]
      · rw [e, q]
    · refine ⟨init ++ [(i, lo, pl + 1)], l[j + 1].1, l[j + 1].2, l[j + 1].2, ?_, Nat.le_refl _, e⟩
      rw [grp_snoc e, h1]
      exact step_new _ _ _ _ _ _ q
def ivs : Nat → Nat → Nat → List Pc → List Gp
  | _, _, _, [] => []
  | k, b, m, p :: ps => if p.n ≤ b then ivs (k + 1) (b - p.n) m ps else if m = 0 then [] else (k, b, b + min m (p.n - b)) :: ivs (k + 1) 0 (m - (p.n - b)) ps
theorem fold_run (k : Nat) (acc : List Gp) (ha : ∀ g ∈ acc, g.1 < k) (lo : Nat) : ∀ n, (run k lo (n + 1)).foldl step acc = acc ++ [(k, lo, lo + (n + 1))]
  | 0 => by
    show step acc (k, lo) = _
    rcases List.eq_nil_or_concat acc with e | ⟨init, g, e⟩
    · rw [e]; rfl
    · have hg := ha g (by rw [e]; simp)
      rw [e]
      obtain ⟨i, x, y⟩ := g
      have hg : i < k := hg
      rw [List.concat_eq_append]
      exact step_new init i k x y lo (by omega)
  | n + 1 => by
    rw [run_snoc, List.foldl_append, fold_run k acc ha lo n]
    show step _ (k, lo + (n + 1)) = _
    rw [step_same]
    rfl
theorem fold_spots : ∀ (ps : List Pc) (k b m : Nat) (acc : List Gp), (∀ g ∈ acc, g.1 < k) → (((spots k ps).drop b).take m).foldl step acc = acc ++ ivs k b m ps
  | [], k, b, m, acc, _ => by
    show ((List.drop b []).take m).foldl step acc = acc ++ []
    rw [List.drop_nil, List.take_nil, List.append_nil]
    rfl
  | p :: ps, k, b, m, acc, ha => by
    have hl := run_len k p.n 0
    show (((run k 0 p.n ++ spots (k + 1) ps).drop b).take m).foldl step acc = acc ++ (if _ then _ else _)
    rw [List.drop_append, hl]
    by_cases q : p.n ≤ b
    · rw [if_pos q, List.drop_of_length_le (by omega), List.nil_append]
      exact fold_spots ps (k + 1) _ m acc fun g hg => Nat.lt_succ_of_lt (ha g hg)
    · rw [if_neg q, run_drop, show b - p.n = 0 by omega, List.drop_zero, List.take_append, run_len, run_take, List.foldl_append, Nat.zero_add]
      by_cases z : m = 0
      · subst z
        rw [if_pos rfl, Nat.zero_min, Nat.zero_sub, List.take_zero, List.append_nil]
        rfl
      · rw [if_neg z]
        obtain ⟨w, hw⟩ : ∃ w, min m (p.n - b) = w + 1 := ⟨min m (p.n - b) - 1, by omega⟩
        rw [hw, fold_run k acc ha b w, ← hw]
        have := fold_spots ps (k + 1) 0 (m - (p.n - b)) (acc ++ [(k, b, b + min m (p.n - b))]) fun g hg => by
          rcases List.mem_append.mp hg with h | h
          · exact Nat.lt_succ_of_lt (ha g h)
          · rw [List.mem_singleton.mp h]
            exact Nat.lt_succ_self _
        rw [List.drop_zero] at this
        rw [this, List.append_assoc]
        rfl
def cutAt (all : List Pc) (g : Gp) : Pc := match all[g.1]? with
  | some p => p.cut g.2.1 g.2.2
  | none => .put []
def tpAt (all : List Pc) (g : Gp) : Pc := match all[g.1]? with
  | some (.take _ _) => .take g.2.1 g.2.2
  | some (.put rs) => .put ((rs.drop g.2.1).take (g.2.2 - g.2.1))
  | none => .put []
theorem ivs_cut {all : List Pc} : ∀ (ps : List Pc) (k b m : Nat), (∀ i p, ps[i]? = some p → all[k + i]? = some p) → Pos ps → (ivs k b m ps).map (cutAt all) = tk m (dr b ps)
  | [], k, b, m, _, _ => rfl
  | p :: ps, k, b, m, h, pos => by
    have hp : all[k]? = some p := h 0 p rfl
    have ht : ∀ i q, ps[i]? = some q → all[k + 1 + i]? = some q := fun i q hq => by
      have := h (i + 1) q hq
      rw [show k + 1 + i = k + (i + 1) by omega]
      exact this
    have p1 := pos.head
    show (if p.n ≤ b then _ else _ : List Gp).map _ = _
    by_cases q : p.n ≤ b
    · rw [if_pos q, dr_cons_le q]
      exact ivs_cut ps (k + 1) _ m ht pos.tail
    · rw [if_neg q, dr_cons_gt q]
      have en : (p.from b).n = p.n - b := from_n
      by_cases z : m = 0
      · subst z
        rw [if_pos rfl, tk_cons_z (by omega)]
        rfl
      · rw [if_neg z, List.map_cons, ivs_cut ps (k + 1) 0 _ ht pos.tail, dr_zero pos.tail]
        have ec : cutAt all (k, b, b + min m (p.n - b)) = p.cut b (b + min m (p.n - b)) := by
          unfold cutAt
          rw [hp]
        rw [ec]
        by_cases q2 : p.n - b ≤ m
        · rw [tk_cons_le (by omega), en, show b + min m (p.n - b) = p.n by omega]
          rfl
        · rw [tk_cons_gt (by omega) z, show m - (p.n - b) = 0 by omega, tk_zero pos.tail, cut_eq p (by omega) (by omega), show b + min m (p.n - b) - b = m by omega]
theorem grp_cut {ps : List Pc} (pos : Pos ps) (b m : Nat) : (grp (((spots 0 ps).drop b).take m)).map (cutAt ps) = tk m (dr b ps) := by
  unfold grp
  rw [fold_spots ps 0 b m [] (fun _ h => by cases h), List.nil_append]
  exact ivs_cut ps 0 b m (fun i p h => by rw [Nat.zero_add]; exact h) pos
end Fw

set_option Elab.async false
set_option linter.all false
set_option maxRecDepth 100000
set_option maxHeartbeats 4000000
namespace Fw
open PySem L2 RZ RT
abbrev rGtS : R2 := fun x y H Q => ∃ i j, x = .str i ∧ y = .str j ∧ Q (.bl (decide (j.cps.toList < i.cps.toList))) H
theorem max2 {i j : Nat} {Q : VK} {H : Hp} {σ : L2.St} (q : Q (.int ((max i j : Nat) : Int)) H) : tNil σ H fun ys H2 => fMax2 (.int (i : Int) :: .int (j : Int) :: ys) H2 Q := by
  refine ⟨_, _, rfl, ?_⟩
  have e : (if (j : Int) > (i : Int) then (j : Int) else (i : Int)) = ((max i j : Nat) : Int) := by
    by_cases h : (j : Int) > (i : Int)
    · rw [if_pos h]; omega
    · rw [if_neg h]; omega
  rw [e]
  exact q
theorem min2 {i j : Nat} {Q : VK} {H : Hp} {σ : L2.St} (q : Q (.int ((min i j : Nat) : Int)) H) : tNil σ H fun ys H2 => fMin2 (.int (i : Int) :: .int (j : Int) :: ys) H2 Q := by
  refine ⟨_, _, rfl, ?_⟩
  have e : (if (j : Int) < (i : Int) then (j : Int) else (i : Int)) = ((min i j : Nat) : Int) := by
    by_cases h : (j : Int) < (i : Int)
    · rw [if_pos h]; omega
    · rw [if_neg h]; omega
  rw [e]
  exact q
def sp_cut_piece (_ : PySem.W.Frag) : Sp := fun vs H Q _ => ∃ (a : Addr) (p : Pc) (l h : Nat) (x y : Int), vs = [.ref a, .int x, .int y] ∧ x = (l : Int) ∧ y = (h : Int) ∧ l < h ∧ h ≤ p.n ∧ PcAt H a p ∧ ∀ (r : Addr) (H' : Hp), Same H H' → PcAt H' r (p.cut l h) → Q (.ref r) H'
def sp_part_of (_ : PySem.W.Frag) : Sp := fun vs H Q _ => ∃ (s : Addr) (ps : List Pc) (b e : Nat) (x y : Int), vs = [.ref s, .int x, .int y] ∧ x = (b : Int) ∧ y = (e : Int) ∧ ScAt H s ps ∧ ps.length ≤ 1000 ∧
  ∀ (L : Addr) (as : List Addr) (H' : Hp), Same H H' → H' L = some (.lst (as.map V.ref)) → LsAt (PcAt H') as (po b e 0 ps) → Q (.ref L) H'
def sp_joined (_ : PySem.W.Frag) : Sp := fun vs H Q _ => ∃ (B s1 s2 : Addr) (bs : List Str) (one other : List Pc), vs = [.ref B, .ref s1, .ref s2] ∧ RwAt H B bs ∧ ScAt H s1 one ∧ ScOk one ∧ (∀ p ∈ one, p.fits bs.length) ∧ ScAt H s2 other ∧ ScOk other ∧ (∀ p ∈ other, p.fits (total one)) ∧
  ∀ (r : Addr) (H' : Hp), Same H H' → ScAt H' r (join one other) → Q (.ref r) H'
def sp_l_is_line (_ : PySem.W.Frag) : Sp := fun vs H Q _ => ∃ z : Str, vs = [.str z] ∧ OkS z ∧ Q (.bl true) H
def sp_l_size (_ : PySem.W.Frag) : Sp := fun vs H Q _ => ∃ (a : Addr) (p : Pc), vs = [.ref a] ∧ PcAt H a p ∧ p.ok ∧ Q (.int (p.n : Int)) H
def sp_l_turned (_ : PySem.W.Frag) : Sp := fun vs H Q _ => ∃ (s L : Addr) (ps : List Pc) (bs : List Addr) (part : List (Nat × Nat)), vs = [.ref s, .ref L] ∧ ScAt H s ps ∧ H L = some (.lst (bs.map V.ref)) ∧ LsAt (PrAt H) bs part ∧ part.length ≤ 1000 ∧ Cq part ∧ (∀ p ∈ ps, p.n ≤ 1000) ∧ (∀ x ∈ part, ∃ p, ps[x.1]? = some p ∧ x.2 < p.n) ∧
  ∀ (F : Addr) (fs : List Addr) (H' : Hp), Same H H' → H F = none → H' F = some (.lst (fs.map V.ref)) → LsAt (PcAt H') fs ((grp part).map (tpAt ps)) → Q (.ref F) H'
def sp_l_joined (_ : PySem.W.Frag) : Sp := fun vs H Q _ => ∃ (s1 s2 : Addr) (one other : List Pc), vs = [.ref s1, .ref s2] ∧ ScAt H s1 one ∧ ScOk one ∧ ScAt H s2 other ∧ ScOk other ∧ (∀ p ∈ other, p.fits (total one)) ∧
  ∀ (r : Addr) (H' : Hp), Same H H' → ScAt H' r (join one other) → Q (.ref r) H'
section
variable {K : PySem.W.Frag} {vs : List V} {H : Hp} {Q : VK} {E : XK}
theorem len_cut_piece (h : sp_cut_piece K vs H Q E) : vs.length = 3 := by obtain ⟨_, _, _, _, _, _, rfl, _⟩ := h; rfl
theorem len_part_of (h : sp_part_of K vs H Q E) : vs.length = 3 := by obtain ⟨_, _, _, _, _, _, rfl, _⟩ := h; rfl
theorem len_joined (h : sp_joined K vs H Q E) : vs.length = 3 := by obtain ⟨_, _, _, _, _, _, rfl, _⟩ := h; rfl
theorem len_l_is_line (h : sp_l_is_line K vs H Q E) : vs.length = 1 := by obtain ⟨_, rfl, _⟩ := h; rfl
theorem len_l_size (h : sp_l_size K vs H Q E) : vs.length = 1 := by obtain ⟨_, _, rfl, _⟩ := h; rfl
theorem len_l_turned (h : sp_l_turned K vs H Q E) : vs.length = 2 := by obtain ⟨_, _, _, _, _, rfl, _⟩ := h; rfl
theorem len_l_joined (h : sp_l_joined K vs H Q E) : vs.length = 2 := by obtain ⟨_, _, _, _, rfl, _⟩ := h; rfl
end
abbrev N_cut_piece : List Str := ["piece", "begin", "end"]
def t_cut_piece (K : PySem.W.Frag) : TS := (tSeq (tIfS (tTest (tOp rEq (tOp (rIx K) (tVar 0) (tC (.int 0))) (tC (.str "put")))) (tRet (tTup (tCons (tC (.str "put")) (tCons (tSl (rSlA K) (tOp (rIx K) (tVar 0) (tC (.int 1))) (tPart (tVar 1)) (tPart (tVar 2))) tNil)))) tNext)
    (tRet (tTup (tCons (tC (.str "take")) (tCons (tOp rAddI (tOp (rIx K) (tVar 0) (tC (.int 1))) (tVar 1)) (tCons (tOp rSubI (tVar 2) (tVar 1)) tNil))))))
abbrev N_part_of : List Str := ["script", "begin", "end", "pieces", "first", "piece", "behind", "low", "high"]
def t_part_of (K : PySem.W.Frag) : TS := (tSeq (tAsg (tLst tNil) (gName 3))
    (tSeq (tAsg (tC (.int 0)) (gName 4))
    (tSeq (tFor (iTup K (tVar 0)) (gName 5) (tSeq (tAsg (tOp rAddI (tVar 4) (tCall (sp_rows_in K) [] E0 (tCons (tVar 5) tNil))) (gName 6))
    (tSeq (tPar 7 8 (tCons (tCB fMax2 (tCons (tVar 1) (tCons (tVar 4) tNil))) (tCons (tCB fMin2 (tCons (tVar 2) (tCons (tVar 6) tNil))) tNil)))
    (tSeq (tIfS (tTest (tOp rLtI (tVar 7) (tVar 8))) (tDrop (tBM K "list" rAppend (tVar 3) (tCons (tCall (sp_cut_piece K) [] E0 (tCons (tVar 5) (tCons (tOp rSubI (tVar 7) (tVar 4)) (tCons (tOp rSubI (tVar 8) (tVar 4)) tNil)))) tNil))) tNext)
    (tAsg (tVar 6) (gName 4))))))
    (tRet (tVar 3)))))
abbrev N_joined : List Str := ["base", "one", "other", "pieces", "piece"]
def t_joined (K : PySem.W.Frag) : TS := (tSeq (tDrop (tCall (sp_refuse_wrong K) [] E0 (tCons (tVar 0) (tCons (tVar 1) tNil))))
    (tSeq (tDrop (tCall (sp_refuse_wrong K) [] E0 (tCons (tCall (sp_made K) [] E0 (tCons (tVar 0) (tCons (tVar 1) tNil))) (tCons (tVar 2) tNil))))
    (tSeq (tAsg (tLst tNil) (gName 3))
    (tSeq (tFor (iTup K (tVar 2)) (gName 4) (tIfS (tTest (tOp rEq (tOp (rIx K) (tVar 4) (tC (.int 0))) (tC (.str "put")))) (tDrop (tBM K "list" rAppend (tVar 3) (tCons (tVar 4) tNil))) (tDrop (tBM K "list" (rExtendA K) (tVar 3) (tCons (tCall (sp_part_of K) [] E0 (tCons (tVar 1) (tCons (tOp (rIx K) (tVar 4) (tC (.int 1))) (tCons (tOp rAddI (tOp (rIx K) (tVar 4) (tC (.int 1))) (tOp (rIx K) (tVar 4) (tC (.int 2)))) tNil)))) tNil)))))
    (tRet (tCB (fTupleOf K) (tCons (tVar 3) tNil)))))))
abbrev N_l_is_line : List Str := ["_law_thing", "_law_sign"]
def t_l_is_line (K : PySem.W.Frag) : TS := (tSeq (tIfS (tOr (tNot (tB (tCB (rIsi K) (tCons (tVar 0) (tCons (tC (.ty "str")) tNil))))) (tTest (tOp rGtI (tCB (fLen K) (tCons (tVar 0) tNil)) (tC (.int 40))))) (tRet (tC (.bl false))) tNext)
    (tSeq (tFor (iStr (tVar 0)) (gName 1) (tIfS (tOr (tTest (tOp rLtS (tVar 1) (tC (.str " ")))) (tTest (tOp rGtS (tVar 1) (tC (.str "~"))))) (tRet (tC (.bl false))) tNext))
    (tRet (tC (.bl true)))))
abbrev N_l_size : List Str := ["_law_piece", "_law_line"]
def t_l_size (K : PySem.W.Frag) : TS := (tSeq (tIfS (tOr (tNot (tB (tCB (rIsi K) (tCons (tVar 0) (tCons (tC (.ty "tuple")) tNil))))) (tOr (tTest (tOp rLtI (tCB (fLen K) (tCons (tVar 0) tNil)) (tC (.int 2)))) (tNot (tB (tCB (rIsi K) (tCons (tOp (rIx K) (tVar 0) (tC (.int 0))) (tCons (tC (.ty "str")) tNil))))))) (tRet (tC (.int 0))) tNext)
    (tSeq (tIfS (tAnd (tTest (tOp rEq (tOp (rIx K) (tVar 0) (tC (.int 0))) (tC (.str "take")))) (tAnd (tTest (tOp rEq (tCB (fLen K) (tCons (tVar 0) tNil)) (tC (.int 3)))) (tAnd (tB (tCall (sp_l_int K) [] E0 (tCons (tOp (rIx K) (tVar 0) (tC (.int 1))) tNil))) (tB (tCall (sp_l_int K) [] E0 (tCons (tOp (rIx K) (tVar 0) (tC (.int 2))) tNil)))))) (tSeq (tIfS (tAnd (tTest (tOp rGeI (tOp (rIx K) (tVar 0) (tC (.int 1))) (tC (.int 0)))) (tTest (tOp rGeI (tOp (rIx K) (tVar 0) (tC (.int 2))) (tC (.int 1))))) (tRet (tOp (rIx K) (tVar 0) (tC (.int 2)))) tNext)
    (tRet (tC (.int 0)))) tNext)
    (tSeq (tIfS (tOr (tTest (tOp rNe (tOp (rIx K) (tVar 0) (tC (.int 0))) (tC (.str "put")))) (tOr (tTest (tOp rNe (tCB (fLen K) (tCons (tVar 0) tNil)) (tC (.int 2)))) (tNot (tB (tCB (rIsi K) (tCons (tOp (rIx K) (tVar 0) (tC (.int 1))) (tCons (tC (.ty "tuple")) tNil))))))) (tRet (tC (.int 0))) tNext)
    (tSeq (tFor (iTup K (tOp (rIx K) (tVar 0) (tC (.int 1)))) (gName 1) (tIfS (tNot (tB (tCall (sp_l_is_line K) [] E0 (tCons (tVar 1) tNil)))) (tRet (tC (.int 0))) tNext))
    (tRet (tCB (fLen K) (tCons (tOp (rIx K) (tVar 0) (tC (.int 1))) tNil)))))))
abbrev N_l_turned : List Str := ["_law_one", "_law_spots", "_law_found", "_law_last", "_law_number", "_law_place", "_law_piece"]
def t_l_turned_fin (K : PySem.W.Frag) : TS := (tAsg (tVar 4) (gName 3))
def t_l_turned_cases (K : PySem.W.Frag) : TS := (tSeq (tIfS (tAnd (tTest (tOp rEq (tOp (rIx K) (tVar 6) (tC (.int 0))) (tC (.str "take")))) (tTest (tOp rEq (tVar 4) (tVar 3)))) (tDrop (tBM K "list" rAppend (tVar 2) (tCons (tTup (tCons (tC (.str "take")) (tCons (tOp (rIx K) (tBM0 K "list" rPop (tVar 2)) (tC (.int 1))) (tCons (tOp rAddI (tVar 5) (tC (.int 1))) tNil)))) tNil))) (tIfS (tTest (tOp rEq (tOp (rIx K) (tVar 6) (tC (.int 0))) (tC (.str "take")))) (tDrop (tBM K "list" rAppend (tVar 2) (tCons (tTup (tCons (tC (.str "take")) (tCons (tVar 5) (tCons (tOp rAddI (tVar 5) (tC (.int 1))) tNil)))) tNil))) (tIfS (tTest (tOp rEq (tVar 4) (tVar 3))) (tDrop (tBM K "list" rAppend (tVar 2) (tCons (tTup (tCons (tC (.str "put")) (tCons (tOp (rCatT K) (tOp (rIx K) (tBM0 K "list" rPop (tVar 2)) (tC (.int 1))) (tSl (rSlA K) (tOp (rIx K) (tVar 6) (tC (.int 1))) (tPart (tVar 5)) (tPart (tOp rAddI (tVar 5) (tC (.int 1)))))) tNil))) tNil))) (tDrop (tBM K "list" rAppend (tVar 2) (tCons (tTup (tCons (tC (.str "put")) (tCons (tSl (rSlA K) (tOp (rIx K) (tVar 6) (tC (.int 1))) (tPart (tVar 5)) (tPart (tOp rAddI (tVar 5) (tC (.int 1))))) tNil))) tNil))))))
    (t_l_turned_fin K))
def t_l_turned (K : PySem.W.Frag) : TS := (tSeq (tAsg (tLst tNil) (gName 2))
    (tSeq (tAsg (tUn rNegI (tC (.int 1))) (gName 3))
    (tSeq (tFor (iList K (tVar 1)) (gTup K 2 (gCons (gName 4) (gCons (gName 5) gNil))) (tSeq (tAsg (tOp (rIx K) (tVar 0) (tVar 4)) (gName 6))
    (t_l_turned_cases K)))
    (tRet (tVar 2)))))
abbrev N_l_joined : List Str := ["_law_one", "_law_other", "_law_spots", "_law_number", "_law_place", "_law_due", "_law_piece", "_law_part", "_law_turned_here", "_law_firsts", "_law_k", "_law_begin"]
def t_l_joined_last (K : PySem.W.Frag) : TS := (tFor (iRng1 (tCons (tCB (fLen K) (tCons (tVar 8) tNil)) tNil)) (gName 10) (tIfS (tTest (tOp rEq (tOp (rIx K) (tOp (rIx K) (tVar 8) (tVar 10)) (tC (.int 0))) (tC (.str "put")))) (tDrop (tBM K "list" rAppend (tVar 5) (tCons (tOp (rIx K) (tVar 8) (tVar 10)) tNil))) (tSeq (tAsg (tOp (rIx K) (tOp (rIx K) (tVar 0) (tOp (rIx K) (tOp (rIx K) (tVar 9) (tVar 10)) (tC (.int 0)))) (tC (.int 1))) (gName 11))
    (tDrop (tBM K "list" rAppend (tVar 5) (tCons (tTup (tCons (tC (.str "take")) (tCons (tOp rAddI (tVar 11) (tOp (rIx K) (tOp (rIx K) (tVar 8) (tVar 10)) (tC (.int 1)))) (tCons (tOp rSubI (tOp (rIx K) (tOp (rIx K) (tVar 8) (tVar 10)) (tC (.int 2))) (tOp (rIx K) (tOp (rIx K) (tVar 8) (tVar 10)) (tC (.int 1)))) tNil)))) tNil))))))
def t_l_joined_firsts (K : PySem.W.Frag) : TS := (tSeq (tAsg (tLst tNil) (gName 9))
    (tSeq (tFor (iRng1 (tCons (tCB (fLen K) (tCons (tVar 7) tNil)) tNil)) (gName 10) (tIfS (tOr (tTest (tOp rEq (tVar 10) (tC (.int 0)))) (tTest (tOp rNe (tOp (rIx K) (tOp (rIx K) (tVar 7) (tVar 10)) (tC (.int 0))) (tOp (rIx K) (tOp (rIx K) (tVar 7) (tOp rSubI (tVar 10) (tC (.int 1)))) (tC (.int 0)))))) (tDrop (tBM K "list" rAppend (tVar 9) (tCons (tOp (rIx K) (tVar 7) (tVar 10)) tNil))) tNext))
    (t_l_joined_last K)))
def t_l_joined_part (K : PySem.W.Frag) : TS := (tSeq (tAsg (tSl (rSlL K) (tVar 2) (tPart (tOp (rIx K) (tVar 6) (tC (.int 1)))) (tPart (tOp rAddI (tOp (rIx K) (tVar 6) (tC (.int 1))) (tOp (rIx K) (tVar 6) (tC (.int 2)))))) (gName 7))
    (tSeq (tAsg (tCall (sp_l_turned K) [] E0 (tCons (tVar 0) (tCons (tVar 7) tNil))) (gName 8))
    (t_l_joined_firsts K)))
def t_l_joined_due (K : PySem.W.Frag) : TS := (tSeq (tAsg (tLst tNil) (gName 5))
    (tSeq (tFor (iTup K (tVar 1)) (gName 6) (tIfS (tTest (tOp rEq (tOp (rIx K) (tVar 6) (tC (.int 0))) (tC (.str "put")))) (tDrop (tBM K "list" rAppend (tVar 5) (tCons (tVar 6) tNil))) (t_l_joined_part K)))
    (tRet (tCB (fTupleOf K) (tCons (tVar 5) tNil)))))
def t_l_joined (K : PySem.W.Frag) : TS := (tSeq (tAsg (tLst tNil) (gName 2))
    (tSeq (tFor (iRng1 (tCons (tCB (fLen K) (tCons (tVar 0) tNil)) tNil)) (gName 3) (tFor (iRng1 (tCons (tCall (sp_l_size K) [] E0 (tCons (tOp (rIx K) (tVar 0) (tVar 3)) tNil)) tNil)) (gName 4) (tDrop (tBM K "list" rAppend (tVar 2) (tCons (tTup (tCons (tVar 3) (tCons (tVar 4) tNil))) tNil)))))
    (t_l_joined_due K)))
section
variable {K : PySem.W.Frag} {vs : List V} {H : Hp} {Q : VK} {E : XK}
theorem slB {B : Addr} {bs : List Str} {l h : Nat} (hB : H B = some (.tup (bs.map V.str))) (h1 : l ≤ h) (h2 : h ≤ bs.length) (q : ∀ (r : Addr) (H' : Hp), Same H H' → RwAt H' r ((bs.drop l).take (h - l)) → Q (.ref r) H') : rSlA K (.ref B) (some (l : Int)) (some (h : Int)) H Q := by
  have := slA (K := K) (Q := Q) hB (show l + (h - l) ≤ bs.length by omega) q
  rw [show (l : Int) + ((h - l : Nat) : Int) = (h : Int) by omega] at this
  exact this
theorem pure_cut_piece (h : sp_cut_piece K vs H Q E) : t_cut_piece K { nx := fun _ H' => Q .non H', rt := Q } (start N_cut_piece vs) H := by
  obtain ⟨a, p, l, h, x, y, rfl, rfl, rfl, h1, h2, ha, k⟩ := h
  cases p with
  | take b m =>
    refine ⟨_, rfl, ixT ha rfl ⟨rfl, _, rfl, ?_⟩⟩
    rw [take_put]
    refine iteF ⟨_, rfl, ixT ha rfl ⟨_, rfl, _, _, rfl, rfl, _, rfl, _, rfl, _, _, rfl, rfl, by show (3 : Nat) ≤ sizeLine; decide, fun r nr => k r _ (Same.upd nr) ?_⟩⟩
    show upd _ _ _ _ = some (.tup [.str "take", .int ((b + l : Nat) : Int), .int ((h - l : Nat) : Int)])
    rw [updS, show ((b + l : Nat) : Int) = (b : Int) + (l : Int) by omega, show ((h - l : Nat) : Int) = (h : Int) - (l : Int) by omega]
  | put rs =>
    obtain ⟨r, h3, h4⟩ := ha
    refine ⟨_, rfl, ixT h3 rfl ⟨rfl, _, rfl, ?_⟩⟩
    rw [decide_eq_true rfl]
    refine iteT ⟨_, rfl, ixT h3 rfl ⟨_, rfl, _, rfl, _, rfl, _, rfl, slB h4 (by omega) h2 fun q H' s hq => ⟨by show (2 : Nat) ≤ sizeLine; decide, fun w nw => k w _ (s.trans (Same.upd nw)) ⟨q, updS, Same.upd nw _ _ hq⟩⟩⟩⟩
theorem po_snoc {b e : Nat} (p : Pc) : ∀ (f : Nat) (xs : List Pc), po b e f (xs ++ [p]) = po b e f xs ++ (if max b (f + total xs) < min e (f + total xs + p.n) then [p.cut (max b (f + total xs) - (f + total xs)) (min e (f + total xs + p.n) - (f + total xs))] else [])
  | f, [] => by
    show _ ++ [] = [] ++ _
    rw [List.append_nil, List.nil_append]
    rfl
  | f, x :: xs => by
    show _ ++ po b e (f + x.n) (xs ++ [p]) = (_ ++ po b e (f + x.n) xs) ++ _
    rw [po_snoc p (f + x.n) xs, List.append_assoc, total_cons, show f + x.n + total xs = f + (x.n + total xs) by omega]
theorem take_succ {α : Type} {xs : List α} {i : Nat} {x : α} (h : xs[i]? = some x) : xs.take (i + 1) = xs.take i ++ [x] := by rw [List.take_add_one, h]; rfl
theorem po_len {b e : Nat} : ∀ (f : Nat) (xs : List Pc), (po b e f xs).length ≤ xs.length
  | _, [] => Nat.le_refl _
  | f, x :: xs => by
    show ((if _ then _ else _) ++ po b e (f + x.n) xs).length ≤ _
    rw [List.length_append, List.length_cons]
    have := po_len (b := b) (e := e) (f + x.n) xs
    by_cases q : max b f < min e (f + x.n)
    · rw [if_pos q]
      show 1 + _ ≤ _
      omega
    · rw [if_neg q]
      show 0 + _ ≤ _
      omega
theorem pure_part_of (h : sp_part_of K vs H Q E) : t_part_of K { nx := fun _ H' => Q .non H', rt := Q } (start N_part_of vs) H := by
  obtain ⟨s, ps, b, e, x, y, rfl, rfl, rfl, ⟨as, ha, hp⟩, hz, k⟩ := h
  refine ⟨Nat.zero_le _, fun L nL => ⟨_, rfl, s, rfl, ⟨_, sqT (updN (ne_of_none ha nL) ha)⟩, ?_⟩⟩
  refine for_tup (K := K) (a := s) (xs := as.map V.ref) (fun i σ H' => Same H H' ∧ ∃ (cs : List Addr) (z5 z6 z7 z8 : Option V), H' L = some (.lst (cs.map V.ref)) ∧ LsAt (PcAt H') cs (po b e 0 (ps.take i)) ∧ σ = [some (.ref s), some (.int (b : Int)), some (.int (e : Int)), some (.ref L), some (.int ((total (ps.take i) : Nat) : Int)), z5, z6, z7, z8]) ⟨Same.upd nL, [], none, none, none, none, updS, .nil, rfl⟩ (fun i σ H' _ p => sqT (p.1 _ _ ha)) ?_ ?_
  · rintro i x σ H' hx ⟨s1, cs, z5, z6, z7, z8, hL, hc, rfl⟩
    obtain ⟨c, p, rfl, h1, h2, h3⟩ := sc_get (hp.mono (.of s1)) hx
    have hi : i < ps.length := (List.getElem?_eq_some_iff.mp h2).1
    have lc : cs.length ≤ 1000 := by
      rw [hc.1]
      have := po_len (b := b) (e := e) 0 (ps.take i)
      rw [List.length_take] at this
      omega
    have et : total (ps.take (i + 1)) = total (ps.take i) + p.n := by rw [take_succ h2, total_snoc]
    have eb : ((total (ps.take i) : Nat) : Int) + (p.n : Int) = ((total (ps.take (i + 1)) : Nat) : Int) := by omega
    have ep := po_snoc (b := b) (e := e) p 0 (ps.take i)
    rw [← take_succ h2, Nat.zero_add, ← et] at ep
    refine ⟨_, rfl, _, rfl, c, p, rfl, h3, _, _, rfl, rfl, ?_⟩
    generalize hf : total (ps.take i) = f at *
    generalize hg : total (ps.take (i + 1)) = g at *
    show tSeq _ _ _ [some (.ref s), some (.int (b : Int)), some (.int (e : Int)), some (.ref L), some (.int (f : Int)), some (.ref c), some (.int ((f : Int) + (p.n : Int))), z7, z8] H'
    rw [eb]
    refine ⟨_, rfl, _, rfl, max2 ⟨_, rfl, _, rfl, min2 ⟨_, _, rfl, ?_⟩⟩⟩
    have s2 : Same H' H' := Same.refl _
    have hL2 := hL
    have hc2 := hc
    have h32 := h3
    refine ⟨_, rfl, _, rfl, _, _, rfl, rfl, _, rfl, ?_⟩
    by_cases q : max b f < min e g
    · rw [decide_eq_true (show ((max b f : Nat) : Int) < ((min e g : Nat) : Int) by omega)]
      rw [if_pos q] at ep
      refine iteT ⟨_, rfl, .inl ⟨rfl, _, sqL hL2⟩, _, rfl, _, rfl, _, rfl, _, _, rfl, rfl, _, rfl, _, rfl, _, _, rfl, rfl, c, p, max b f - f, min e g - f, _, _, rfl, by omega, by omega, by omega, by omega, h32, fun r H3 s3 hr => ?_⟩
      refine ⟨L, _, _, rfl, rfl, s3 _ _ hL2, by rw [List.length_map]; exact Nat.lt_of_le_of_lt lc (by decide), ?_⟩
      have tm : TM H3 (upd H3 L (.lst (cs.map V.ref ++ [.ref r]))) := fun a xs h => updN (ne_of h (s3 _ _ hL2) (by intro z; cases z)) h
      refine ⟨_, rfl, Same.updI ((s1.trans s2).trans s3) nL, cs ++ [r], _, _, _, _, ?_, ?_, rfl⟩
      · rw [updS, List.map_append]
        rfl
      · rw [ep]
        exact ((hc2.mono (PcAt.mono' (.of s3))).snoc hr).mono (PcAt.mono' tm)
    · rw [decide_eq_false (show ¬ ((max b f : Nat) : Int) < ((min e g : Nat) : Int) by omega)]
      rw [if_neg q, List.append_nil] at ep
      refine iteF ⟨_, rfl, s1.trans s2, cs, _, _, _, _, hL2, ?_, rfl⟩
      rw [ep]
      exact hc2
  · rintro σ H' ⟨s1, cs, z5, z6, z7, z8, hL, hc, rfl⟩
    rw [List.length_map, hp.1, List.take_of_length_le (Nat.le_refl _)] at hc
    exact ⟨_, rfl, k L cs H' s1 hL hc⟩
theorem join_snoc {f ps : List Pc} {i : Nat} {p : Pc} (h : ps[i]? = some p) : join f (ps.take (i + 1)) = join f (ps.take i) ++ sub f p := by
  rw [take_succ h, join_append]
  show _ ++ (sub f p ++ []) = _
  rw [List.append_nil]
theorem join_len {f ps : List Pc} (hf : ScOk f) (hp : ScOk ps) (fit : ∀ p ∈ ps, p.fits (total f)) (i : Nat) : (join f (ps.take i)).length ≤ 40 := by
  have o : ScOk (ps.take i) := ⟨fun p h => hp.ok p (List.mem_of_mem_take h), Nat.le_trans (total_take_le i) hp.few⟩
  exact (join_ok hf o (fun p h => fit p (List.mem_of_mem_take h))).len
theorem pure_joined (h : sp_joined K vs H Q E) : t_joined K { nx := fun _ H' => Q .non H', rt := Q } (start N_joined vs) H := by
  obtain ⟨B, s1, s2, bs, one, other, rfl, hB, sc1, ok1, fit1, sc2, ok2, fit2, k⟩ := h
  have lm := makes_len fit1
  refine ⟨_, rfl, _, rfl, B, s1, bs, one, rfl, hB, sc1, ok1, fit1, fun H1 g1 => ?_⟩
  refine ⟨_, rfl, _, rfl, B, s1, bs, one, rfl, g1 _ _ hB, sc1.mono (.of g1), ok1, fit1, fun M H2 g2 hM => ⟨_, rfl, M, s2, makes bs one, other, rfl, hM, sc2.mono (.of (g1.trans g2)), ok2, by rw [lm]; exact fit2, fun H3 g3 => ?_⟩⟩
  have g : Same H H3 := (g1.trans g2).trans g3
  have c1 := sc1.mono (.of g)
  obtain ⟨as, ha, hp⟩ := sc2.mono (.of g)
  clear g1 g2 g3 hM sc1 sc2
  refine ⟨Nat.zero_le _, fun L nL => ⟨_, rfl, s2, rfl, ⟨_, sqT (updN (ne_of_none ha nL) ha)⟩, ?_⟩⟩
  refine for_tup (K := K) (a := s2) (xs := as.map V.ref) (fun i σ H' => Same H3 H' ∧ ∃ (cs : List Addr) (z4 : Option V), H' L = some (.lst (cs.map V.ref)) ∧ LsAt (PcAt H') cs (join one (other.take i)) ∧ σ = [some (.ref B), some (.ref s1), some (.ref s2), some (.ref L), z4]) ⟨Same.upd nL, [], none, updS, .nil, rfl⟩ (fun i σ H' _ p => sqT (p.1 _ _ ha)) ?_ ?_
  · rintro i x σ H' hx ⟨q1, cs, z4, hL, hc, rfl⟩
    obtain ⟨c, p, rfl, h1, h2, h3⟩ := sc_get (hp.mono (.of q1)) hx
    have lc : cs.length ≤ 40 := by rw [hc.1]; exact join_len ok1 ok2 fit2 i
    have f := fit2 p (List.mem_of_getElem? h2)
    have ej := join_snoc (f := one) h2
    have l1 := join_len ok1 ok2 fit2 (i + 1)
    cases p with
    | take b m =>
      refine ⟨_, rfl, ixT h3 rfl ⟨rfl, _, rfl, ?_⟩⟩
      rw [take_put]
      refine iteF ⟨_, rfl, .inl ⟨rfl, _, sqL hL⟩, _, rfl, _, rfl, ixT h3 rfl ⟨_, rfl, ixT h3 rfl ⟨_, rfl, ixT h3 rfl ⟨_, _, rfl, rfl, s1, one, b, b + m, _, _, rfl, rfl, by omega, c1.mono (.of q1), Nat.le_trans ok1.len (by decide), fun M ds H4 g4 hM hd => ?_⟩⟩⟩⟩
      rw [part_eq (Pos.of_ok ok1.ok)] at hd
      have ld : ds.length ≤ 40 := by
        rw [hd.1]
        rw [ej, List.length_append] at l1
        have : (sub one (.take b m)).length = (tk m (dr b one)).length := rfl
        omega
      have tm : TM H4 (upd H4 L (.lst (cs.map V.ref ++ ds.map V.ref))) := fun a xs h => updN (ne_of h (g4 _ _ hL) (by intro z; cases z)) h
      refine ⟨L, M, _, _, rfl, rfl, g4 _ _ hL, .inl hM, by rw [List.length_map, List.length_map]; omega, Same.updI (q1.trans g4) nL, cs ++ ds, _, ?_, ?_, rfl⟩
      · rw [updS, List.map_append]
      · rw [ej]
        exact ((hc.mono (PcAt.mono' (.of g4))).append hd).mono (PcAt.mono' tm)
    | put rs =>
      have h30 := h3
      obtain ⟨q, h4, h5⟩ := h3
      refine ⟨_, rfl, ixT h4 rfl ⟨rfl, _, rfl, ?_⟩⟩
      rw [decide_eq_true rfl]
      have tm : TM H' (upd H' L (.lst (cs.map V.ref ++ [.ref c]))) := fun a xs h => updN (ne_of h hL (by intro z; cases z)) h
      refine iteT ⟨_, rfl, .inl ⟨rfl, _, sqL hL⟩, _, rfl, L, _, _, rfl, rfl, hL, by rw [List.length_map]; exact Nat.lt_of_le_of_lt lc (by decide), Same.updI q1 nL, cs ++ [c], _, ?_, ?_, rfl⟩
      · rw [updS, List.map_append]
        rfl
      · rw [ej]
        exact (hc.snoc h30).mono (PcAt.mono' tm)
  · rintro σ H' ⟨q1, cs, z4, hL, hc, rfl⟩
    rw [List.length_map, hp.1, List.take_of_length_le (Nat.le_refl _)] at hc
    refine ⟨_, rfl, L, _, rfl, .inl ⟨sqL hL, fun r nr => k r _ ((g.trans q1).trans (Same.upd nr)) ⟨cs, updS, hc.mono (PcAt.mono' (.of (Same.upd nr)))⟩⟩⟩
theorem pure_l_is_line (h : sp_l_is_line K vs H Q E) : t_l_is_line K { nx := fun _ H' => Q .non H', rt := Q } (start N_l_is_line vs) H := by
  obtain ⟨z, rfl, o, k⟩ := h
  refine ⟨_, rfl, isi (.base (.str z)) k_ss ⟨_, rfl, iteF ⟨_, rfl, lenS (Nat.le_trans o.1 (by decide)) ⟨_, _, rfl, rfl, _, rfl, ?_⟩⟩⟩⟩
  rw [decide_eq_false (show ¬ (40 : Int) < ((z.length : Nat) : Int) by have := o.1; show ¬ (40 : Int) < ((z.cps.size : Nat) : Int); omega)]
  refine iteF ⟨_, rfl, z, rfl, for_it walk_str (fun i σ H' => H' = H ∧ ∃ w, σ = [some (.str z), w]) ⟨rfl, none, rfl⟩ (fun _ _ _ _ _ => True.intro) ?_ ?_⟩
  · rintro i x σ H' H'' hi ⟨rfl, w, rfl⟩ ⟨rfl, c, hc, rfl⟩
    have oc : OkC c := o.2 c (by obtain ⟨q1, q2⟩ := Array.getElem?_eq_some_iff.mp hc; rw [← q2]; exact Array.getElem_mem_toList q1)
    have n1 := blank_le oc.1
    have n2 := le_tilde oc.2.1
    rw [Bool.not_eq_true'] at n1 n2
    refine ⟨_, rfl, _, _, rfl, rfl, _, rfl, ?_⟩
    rw [n1]
    refine iteF ⟨_, rfl, _, _, rfl, rfl, _, rfl, ?_⟩
    rw [n2]
    exact iteF ⟨rfl, _, rfl⟩
  · rintro σ H' ⟨rfl, w, rfl⟩
    exact k
theorem pure_l_size (h : sp_l_size K vs H Q E) : t_l_size K { nx := fun _ H' => Q .non H', rt := Q } (start N_l_size vs) H := by
  obtain ⟨a, p, rfl, ha, ok, k⟩ := h
  cases p with
  | take b m =>
    have ok : 1 ≤ m := ok
    refine ⟨_, rfl, isi (.base (.tup ha)) k_tt ⟨_, rfl, iteF ⟨_, rfl, lenT ha ⟨_, _, rfl, rfl, _, rfl, iteF ⟨_, rfl, ixT ha rfl (isi (.base (.str _)) k_ss ⟨_, rfl, iteF ?_⟩)⟩⟩⟩⟩⟩
    refine ⟨_, rfl, ixT ha rfl ⟨rfl, _, rfl, ?_⟩⟩
    rw [decide_eq_true rfl]
    refine iteT ⟨_, rfl, lenT ha ⟨rfl, _, rfl, iteT ⟨_, rfl, ixT ha rfl ⟨_, rfl, _, rfl, iteT ⟨_, rfl, ixT ha rfl ⟨_, rfl, _, rfl, iteT ?_⟩⟩⟩⟩⟩⟩
    refine ⟨_, rfl, ixT ha rfl ⟨_, _, rfl, rfl, _, rfl, ?_⟩⟩
    rw [decide_eq_true (show (0 : Int) ≤ (b : Int) by omega)]
    refine iteT ⟨_, rfl, ixT ha rfl ⟨_, _, rfl, rfl, _, rfl, ?_⟩⟩
    rw [decide_eq_true (show (1 : Int) ≤ (m : Int) by omega)]
    exact iteT ⟨_, rfl, ixT ha rfl k⟩
  | put rs =>
    obtain ⟨r, h1, h2⟩ := ha
    refine ⟨_, rfl, isi (.base (.tup h1)) k_tt ⟨_, rfl, iteF ⟨_, rfl, lenT h1 ⟨_, _, rfl, rfl, _, rfl, iteF ⟨_, rfl, ixT h1 rfl (isi (.base (.str _)) k_ss ⟨_, rfl, iteF ?_⟩)⟩⟩⟩⟩⟩
    refine ⟨_, rfl, ixT h1 rfl ⟨rfl, _, rfl, ?_⟩⟩
    rw [put_take]
    refine iteF (iteF ⟨_, rfl, ixT h1 rfl ⟨rfl, _, rfl, ?_⟩⟩)
    rw [decide_eq_true rfl]
    refine iteF ⟨_, rfl, lenT h1 ⟨rfl, _, rfl, iteF ⟨_, rfl, ixT h1 rfl (isi (.base (.tup h2)) k_tt ⟨_, rfl, iteF ?_⟩)⟩⟩⟩
    refine ⟨_, rfl, ixT h1 rfl ⟨r, rfl, ⟨_, sqT h2⟩, for_tup (K := K) (a := r) (xs := rs.map V.str) (fun i σ H' => H' = H ∧ ∃ w, σ = [some (.ref a), w]) ⟨rfl, none, rfl⟩ (fun _ _ _ _ p => by rw [p.1]; exact sqT h2) ?_ ?_⟩⟩
    · rintro i x σ H' hx ⟨rfl, w, rfl⟩
      rw [List.getElem?_map] at hx
      cases q : rs[i]? with
      | none => rw [q] at hx; cases hx
      | some z =>
        rw [q] at hx
        cases Option.some.inj hx
        exact ⟨_, rfl, z, rfl, ok.2 z (List.mem_of_getElem? q), _, rfl, iteF ⟨rfl, _, rfl⟩⟩
    · rintro σ H' ⟨rfl, w, rfl⟩
      refine ⟨_, rfl, ixT h1 rfl (lenT h2 ?_)⟩
      rw [List.length_map]
      exact k
end
end Fw

set_option Elab.async false
set_option linter.all false
set_option maxRecDepth 100000
set_option maxHeartbeats 4000000
namespace Fw
open PySem PySem.Spec PyProof.Rows L2
theorem str_eq_dict (b : Str) (u : Tok) (l : Addr) (c : Value) (es : Array DictEntry) (n : Nat) (dd : Option Addr) (sl : Array (Option Value)) :
    Meets (Builtin.«str.__eq__» ⟨[.str b u, .ref l], []⟩) (fun _ R s => s.heap.get? l = some { cls := c, dict := dd, data := .dict es n, slots := sl } ∧ R (.ok (.ret .notImplemented)) s) :=
  .of_wp fun prog w A R s h => by
    obtain ⟨hp, g, d, tk, os⟩ := s
    obtain ⟨hl, h⟩ := h
    wp_walk using AutoSeq1.wpAny_loadPart' hl, wpAny_load hl
    exact ⟨_, rfl, h⟩
section
variable {prog : Program} {w : World} {K : Type} [DecidableEq K] {knd : KeyKind prog w K} {A : Around} {E : Value → Shared → Prop} {s : Shared}
theorem rc_dict_str {a : Addr} {b : Str} {u : Tok} {ka : List (K × Value)} (da : s.heap.DictOf knd a ka) (hu : A.units < cLine) (Q : Value → Shared → Prop) (h : Q (.bool false) s) : wpAny (model prog w) A (richCompare .Eq (.ref a) (.str b u)) Q E s := by
  obtain ⟨⟨cls, dd, data, sl⟩, es, ep, ho, hx, hd, _⟩ := id da
  simp only at hd
  subst hd
  refine SeqAt.rc_eq_decline_or (k := false) da.typeIs (typeIs_str s b u) (by decide) PySem.F.sub_str_dict PySem.F.slot_dict_eq PySem.F.slot_str_eq_refl
    (fun Q' hq => ?_) (fun _ hq => call_meets PySem.F.slot_str_eq_refl (typeIs_str s b u) PySem.F.entry_str_eq (PySem.F.args_str_eq_2 _ _) (str_eq_dict b u a cls es ep dd sl) ⟨ho, hq⟩)
    (fun _ hq => wpAny_of_eq (rfl : isSame (.ref a) (.str b u) = pure false) hq) (.inr hu) h
  refine wpAny_call_entry PySem.F.slot_dict_eq da.typeIs PySem.F.entry_dict_eq ?_ (PySem.F.args_dict_eq_2 _ _)
  show wpAny _ _ (Builtin.Dict.dictSlotArgs "__eq__" ⟨[.ref a, .str b u], []⟩ >>= _) _ _ s
  refine wpAny_bind ?_
  unfold Builtin.Dict.dictSlotArgs
  refine wpAny_bind (wpAny_notOrdered_dict da.typeIs ?_)
  show wpAny _ _ (pure (Value.ref a, Value.str b u)) _ _ s
  refine wpAny_pure ?_
  refine wpAny_bind (wpAny_isInstance (T := "str") (typeIs_str s b u) PySem.F.sub_str_dict ?_)
  simp only [Bool.not_false, if_true]
  exact wpAny_bind (wpAny_rule (wpAny_pure ⟨_, rfl, hq⟩))
end
/-- x == a text, x any data -/
def rEqS (K : PySem.W.Frag) : R2 := fun x y H Q => ∃ z, y = .str z ∧ ((scal x y = true ∧ Q (.bl (decide (x = y))) H) ∨ ∃ a, x = .ref a ∧ ((∃ xs, SqT K H a xs) ∨ (∃ xs, SqL K H a xs) ∨ ∃ kvs, H a = some (.dK kvs)) ∧ Q (.bl false) H)
theorem op_eqS {X : Cx} (hu : X.A.units + 64 < cLine) : OpR X (compareOp .Eq) (rEqS X.K) := by
  intro pins s σ H x y v u Q I rx ry h
  obtain ⟨z, rfl, h⟩ := h
  rcases h with h | ⟨a, rfl, h, q⟩
  · exact op_eq pins s σ H _ _ v u Q I rx ry h
  · cases (show v = Value.ref a from rx)
    obtain ⟨t, rfl⟩ := ry
    have hu2 : X.A.units < cLine := by omega
    show wpAny _ _ (richCompare .Eq (.ref a) (.str z t)) _ _ s
    rcases h with ⟨xs, h⟩ | ⟨xs, h⟩ | ⟨kvs, h⟩
    · obtain ⟨its, rv, p, _⟩ := I.tuple h
      exact SeqAt.RcAt.tuple_str z t p hu2 _ _ _ _ ⟨.bl false, H, I, rfl, q⟩
    · obtain ⟨its, rv, p, _⟩ := I.list h
      exact SeqAt.RcAt.list_str z t p.isList hu2 _ _ _ _ ⟨.bl false, H, I, rfl, q⟩
    · obtain ⟨_, ya, va, ra, da⟩ := (show ObjOk X.prog X.w H s.heap a (.dK kvs) from I.hok a _ h)
      exact rc_dict_str da hu2 _ ⟨.bl false, H, I, rfl, q⟩
/-- a text times an int -/
def rRepS : R2 := fun x y H Q => ∃ (z : Str) (k : Nat), x = .str z ∧ y = .int (k : Int) ∧ 2 ≤ k ∧ k ≤ 1000 ∧ 1 ≤ z.length ∧ z.length ≤ 1000 ∧ (⟨(List.replicate k z.cps).foldl (· ++ ·) #[]⟩ : Str).length ≤ sizeLine ∧ Q (.str ⟨(List.replicate k z.cps).foldl (· ++ ·) #[]⟩) H
theorem op_repS {X : Cx} : OpR X (binaryOp .Mult) rRepS := by
  intro pins s σ H x y v u Q I rx ry h
  obtain ⟨z, k, rfl, rfl, k1, k2, z1, z2, z3, q⟩ := h
  obtain ⟨t, rfl⟩ := rx
  obtain ⟨t', rfl⟩ := ry
  have hm : z.length * k ≤ 1000 * 1000 := Nat.mul_le_mul z2 k2
  have e1 : ¬ ((k : Nat) : Int) < 1 := by omega
  have e2 : (((k : Nat) : Int) == 1 || z.length == 0) = false := by
    rw [Bool.or_eq_false_iff, beq_eq_false_iff_ne, beq_eq_false_iff_ne]
    omega
  refine PySem.P.mul_str ?_ (fun _ _ => ?_) (fun _ _ => ?_) ?_
  · rw [Bool.or_eq_false_iff, decide_eq_false_iff_not, decide_eq_false_iff_not]
    omega
  · have : (1000 : Int) ≤ (2 ^ 63 - 1) / (k : Int) := (Int.le_ediv_iff_mul_le (by omega)).mpr (by omega)
    omega
  · show decide (z.length * k > sizeLine) = false
    rw [decide_eq_false_iff_not, sizeLine_eq]
    omega
  · rw [if_neg e1, if_neg (by rw [e2]; exact Bool.false_ne_true)]
    exact ⟨z3, ⟨.str _, H, I.tok _, ⟨_, rfl⟩, q⟩⟩
end Fw

set_option Elab.async false
set_option linter.all false
set_option maxRecDepth 100000
set_option maxHeartbeats 4000000
namespace Fw
open PySem L2 RZ RT
/-! ### what is raised, what is caught -/
def tRaise (E : XK) (c : Value) : TS := fun _ _ H => E c none H
/-! ### yes or no -/
noncomputable def dc (p : Prop) : Bool := @decide p (Classical.propDecidable p)
theorem dcT {p : Prop} (h : p) : dc p = true := @decide_eq_true p (Classical.propDecidable p) h
theorem dcF {p : Prop} (h : ¬ p) : dc p = false := @decide_eq_false p (Classical.propDecidable p) h
theorem dc_congr {p q : Prop} (h : p ↔ q) : dc p = dc q := by rw [propext h]
theorem dc_of {p : Prop} (h : dc p = true) : p := by
  by_cases q : p
  · exact q
  · rw [dcF q] at h
    cases h
theorem dc_dec {p : Prop} [Decidable p] : decide p = dc p := by
  by_cases q : p
  · rw [decide_eq_true q, dcT q]
  · rw [decide_eq_false q, dcF q]
theorem dc_all {α : Type} (P : α → Prop) : ∀ xs : List α, (xs.map fun x => dc (P x)).all id = dc (∀ x ∈ xs, P x)
  | [] => (dcT (fun x hx => by cases hx)).symm
  | x :: xs => by
    rw [List.map_cons, List.all_cons, dc_all P xs]
    show (dc (P x) && _) = _
    by_cases h : P x
    · rw [dcT h, Bool.true_and]
      refine dc_congr ⟨fun k y hy => ?_, fun k y hy => k y (List.mem_cons_of_mem _ hy)⟩
      rcases List.mem_cons.mp hy with rfl | hy
      · exact h
      · exact k y hy
    · rw [dcF h, Bool.false_and, dcF fun k => h (k x List.mem_cons_self)]
def Yn (P : Prop) (H : Hp) (Q : VK) : Prop := (P → ∀ H', Same H H' → Q (.bl true) H') ∧ (¬ P → ∀ H', Same H H' → Q (.bl false) H')
def Yx (P : Prop) (H : Hp) (Q : VK) : Prop := (P → Q (.bl true) H) ∧ (¬ P → Q (.bl false) H)
theorem Yn.x {P : Prop} {H : Hp} {Q : VK} (y : Yn P H Q) : Yx P H Q := ⟨fun p => y.1 p H (Same.refl _), fun p => y.2 p H (Same.refl _)⟩
theorem Yn.of {P : Prop} {H : Hp} {Q : VK} (h : ∀ H', Same H H' → Q (.bl (dc P)) H') : Yn P H Q := ⟨fun p H' s => by have := h H' s; rw [dcT p] at this; exact this, fun p H' s => by have := h H' s; rw [dcF p] at this; exact this⟩
theorem Yn.run {P : Prop} {H H' : Hp} {Q : VK} (y : Yn P H Q) (s : Same H H') : Q (.bl (dc P)) H' := by
  by_cases p : P
  · rw [dcT p]
    exact y.1 p H' s
  · rw [dcF p]
    exact y.2 p H' s
theorem Yn.yes {P : Prop} {H : Hp} {Q : VK} (y : Yn P H Q) (p : P) : Q (.bl true) H := y.1 p H (Same.refl _)
theorem Yn.no {P : Prop} {H : Hp} {Q : VK} (y : Yn P H Q) (p : ¬ P) : Q (.bl false) H := y.2 p H (Same.refl _)
theorem Yn.dec {P : Prop} {H : Hp} {Q : VK} {p : Prop} [Decidable p] (y : Yn P H Q) (e : p ↔ P) : Q (.bl (decide p)) H := by
  rw [dc_dec, dc_congr e]
  exact y.run (Same.refl _)
/-! ### any data -/
def TxOk (B : Nat) (z : Str) : Prop := z.cps.size ≤ B ∧ ∀ c ∈ z.cps.toList, c ≠ 37
inductive Ad (D : Addr) (B : Nat) (H : Hp) : V → Prop where
  | non : Ad D B H .non
  | bl (b : Bool) : Ad D B H (.bl b)
  | int (i : Int) : Ad D B H (.int i)
  | str {z : Str} (h : TxOk B z) : Ad D B H (.str z)
  | tup {p : Addr} {xs : List V} (n : p ≠ D) (h : H p = some (.tup xs)) (hz : xs.length ≤ B) (ha : ∀ x ∈ xs, Ad D B H x) : Ad D B H (.ref p)
  | lst {p : Addr} {xs : List V} (n : p ≠ D) (h : H p = some (.lst xs)) (hz : xs.length ≤ B) (ha : ∀ x ∈ xs, Ad D B H x) : Ad D B H (.ref p)
  | dct {p : Addr} {kvs : List (Key × V)} (n : p ≠ D) (h : H p = some (.dK kvs)) : Ad D B H (.ref p)
theorem Ad.mono {D : Addr} {B B' : Nat} {H H' : Hp} (k : Kp D H H') (hb : B ≤ B') {x : V} (a : Ad D B H x) : Ad D B' H' x := by
  induction a with
  | non => exact .non
  | bl b => exact .bl b
  | int i => exact .int i
  | str h => exact .str ⟨Nat.le_trans h.1 hb, h.2⟩
  | tup n h hz _ ih => exact .tup n (k _ _ h n) (Nat.le_trans hz hb) ih
  | lst n h hz _ ih => exact .lst n (k _ _ h n) (Nat.le_trans hz hb) ih
  | dct n h => exact .dct n (k _ _ h n)
theorem Ad.same {D : Addr} {B : Nat} {H H' : Hp} {x : V} (a : Ad D B H x) (s : Same H H') : Ad D B H' x := a.mono (Kp.of_same s) (Nat.le_refl _)
theorem q_dt : kitB "dict" "tuple" = some false := by decide +kernel
theorem q_di : kitB "dict" "int" = some false := by decide +kernel
theorem q_ds : kitB "dict" "str" = some false := by decide +kernel
theorem q_ns : kitB "NoneType" "str" = some false := by decide +kernel
theorem q_bs : kitB "bool" "str" = some false := by decide +kernel
theorem q_is : kitB "int" "str" = some false := by decide +kernel
theorem q_ts : kitB "tuple" "str" = some false := by decide +kernel
theorem q_ls : kitB "list" "str" = some false := by decide +kernel
section
variable {K : PySem.W.Frag} {D : Addr} {B : Nat} {H : Hp} {x : V}
theorem Ad.tupC (K : PySem.W.Frag) (a : Ad D B H x) : (∃ p xs, x = .ref p ∧ p ≠ D ∧ H p = some (.tup xs) ∧ xs.length ≤ B ∧ ∀ y ∈ xs, Ad D B H y) ∨ ((∃ ty, TyX K H x (.type ty) ∧ kitB ty "tuple" = some false) ∧ ∀ p xs, x = .ref p → H p ≠ some (.tup xs)) := by
  cases a with
  | non => exact .inr ⟨⟨_, .base .non, k_nt⟩, fun p xs e => by cases e⟩
  | bl b => exact .inr ⟨⟨_, .base (.bl b), k_bt⟩, fun p xs e => by cases e⟩
  | int i => exact .inr ⟨⟨_, .base (.int i), k_it⟩, fun p xs e => by cases e⟩
  | str h => exact .inr ⟨⟨_, .base (.str _), k_st⟩, fun p xs e => by cases e⟩
  | tup n h hz ha => exact .inl ⟨_, _, rfl, n, h, hz, ha⟩
  | lst n h hz ha => exact .inr ⟨⟨_, .base (.lst h), k_lt⟩, fun p xs e => by cases e; rw [h]; intro z; cases z⟩
  | dct n h => exact .inr ⟨⟨_, .base (.dK h), q_dt⟩, fun p xs e => by cases e; rw [h]; intro z; cases z⟩
theorem Ad.strC (K : PySem.W.Frag) (a : Ad D B H x) : (∃ z, x = .str z ∧ TxOk B z) ∨ ((∃ ty, TyX K H x (.type ty) ∧ kitB ty "str" = some false) ∧ ∀ z, x ≠ .str z) := by
  cases a with
  | non => exact .inr ⟨⟨_, .base .non, q_ns⟩, fun z e => by cases e⟩
  | bl b => exact .inr ⟨⟨_, .base (.bl b), q_bs⟩, fun z e => by cases e⟩
  | int i => exact .inr ⟨⟨_, .base (.int i), q_is⟩, fun z e => by cases e⟩
  | str h => exact .inl ⟨_, rfl, h⟩
  | tup n h hz ha => exact .inr ⟨⟨_, .base (.tup h), q_ts⟩, fun z e => by cases e⟩
  | lst n h hz ha => exact .inr ⟨⟨_, .base (.lst h), q_ls⟩, fun z e => by cases e⟩
  | dct n h => exact .inr ⟨⟨_, .base (.dK h), q_ds⟩, fun z e => by cases e⟩
theorem Ad.intC (K : PySem.W.Frag) (a : Ad D B H x) : (∃ i, x = .int i) ∨ (∃ b, x = .bl b) ∨ ((∃ ty, TyX K H x (.type ty) ∧ kitB ty "int" = some false) ∧ ∀ i, x ≠ .int i) := by
  cases a with
  | non => exact .inr (.inr ⟨⟨_, .base .non, k_ni⟩, fun z e => by cases e⟩)
  | bl b => exact .inr (.inl ⟨b, rfl⟩)
  | int i => exact .inl ⟨i, rfl⟩
  | str h => exact .inr (.inr ⟨⟨_, .base (.str _), k_si⟩, fun z e => by cases e⟩)
  | tup n h hz ha => exact .inr (.inr ⟨⟨_, .base (.tup h), k_ti⟩, fun z e => by cases e⟩)
  | lst n h hz ha => exact .inr (.inr ⟨⟨_, .base (.lst h), k_li⟩, fun z e => by cases e⟩)
  | dct n h => exact .inr (.inr ⟨⟨_, .base (.dK h), q_di⟩, fun z e => by cases e⟩)
/-- x == a text -/
theorem Ad.eqS {w : Str} {Q : VK} {σ : L2.St} (a : Ad D B H x) (hy : x = .str w → Q (.bl true) H) (hn : x ≠ .str w → Q (.bl false) H) : tC (.str w) σ H fun y H2 => rEqS K x y H2 Q := by
  show rEqS K x (.str w) H Q
  refine ⟨w, rfl, ?_⟩
  have sc : scal x (.str w) = true → scal x (.str w) = true ∧ Q (.bl (decide (x = .str w))) H := fun h => by
    refine ⟨h, ?_⟩
    by_cases e : x = .str w
    · rw [decide_eq_true e]
      exact hy e
    · rw [decide_eq_false e]
      exact hn e
  cases a with
  | non => exact .inl (sc rfl)
  | bl b => exact .inl (sc rfl)
  | int i => exact .inl (sc rfl)
  | str h => exact .inl (sc rfl)
  | tup n h hz ha => exact .inr ⟨_, rfl, .inl ⟨_, sqT h⟩, hn fun e => by cases e⟩
  | lst n h hz ha => exact .inr ⟨_, rfl, .inr (.inl ⟨_, sqL h⟩), hn fun e => by cases e⟩
  | dct n h => exact .inr ⟨_, rfl, .inr (.inr ⟨_, h⟩), hn fun e => by cases e⟩
end
theorem at0 {x : V} {r : List V} : atI (x :: r) 0 = some x := atI_nat (xs := x :: r) (j := 0) rfl
/-! ### what is a script -/
def Row (x : V) : Prop := ∃ z, x = .str z ∧ OkS z
def Put (H : Hp) (x : V) : Prop := ∃ a rs, x = .ref a ∧ RwAt H a rs ∧ rs ≠ [] ∧ ∀ z ∈ rs, OkS z
def Pie (H : Hp) (x : V) : Prop := ∃ a p, x = .ref a ∧ PcAt H a p ∧ p.ok
def Scr (H : Hp) (x : V) : Prop := ∃ a ps, x = .ref a ∧ ScAt H a ps ∧ ScOk ps
def Fit (H : Hp) (x : V) (L : Nat) : Prop := ∃ a ps, x = .ref a ∧ ScAt H a ps ∧ ScOk ps ∧ ∀ p ∈ ps, p.fits L
theorem str_inj : ∀ {rs ss : List Str}, rs.map V.str = ss.map V.str → rs = ss
  | [], [], _ => rfl
  | [], _ :: _, h => by cases h
  | _ :: _, [], h => by cases h
  | r :: rs, s :: ss, h => by
    rw [List.map_cons, List.map_cons] at h
    injection h with h1 h2
    injection h1 with h1
    rw [h1, str_inj h2]
theorem ref_inj : ∀ {rs ss : List Addr}, rs.map V.ref = ss.map V.ref → rs = ss
  | [], [], _ => rfl
  | [], _ :: _, h => by cases h
  | _ :: _, [], h => by cases h
  | r :: rs, s :: ss, h => by
    rw [List.map_cons, List.map_cons] at h
    injection h with h1 h2
    injection h1 with h1
    rw [h1, ref_inj h2]
theorem tup_inj {H : Hp} {a : Addr} {xs ys : List V} (h1 : H a = some (.tup xs)) (h2 : H a = some (.tup ys)) : xs = ys := by
  rw [h1] at h2
  injection h2 with h2
  injection h2
theorem take_ne : ("take" : Str) ≠ "put" := by decide +kernel
theorem PcAt.inj {H : Hp} {a : Addr} {p q : Pc} (h1 : PcAt H a p) (h2 : PcAt H a q) : p = q := by
  cases p with
  | take b m =>
    cases q with
    | take b2 m2 =>
      have e := tup_inj h1 h2
      injection e with _ e
      injection e with e1 e
      injection e with e2 _
      injection e1 with e1
      injection e2 with e2
      rw [Int.ofNat.inj e1, Int.ofNat.inj e2]
    | put rs =>
      obtain ⟨r, h3, _⟩ := h2
      have e := tup_inj h1 h3
      injection e with e _
      injection e with e
      exact absurd e take_ne
  | put rs =>
    obtain ⟨r, h3, h4⟩ := h1
    cases q with
    | take b m =>
      have e := tup_inj h2 h3
      injection e with e _
      injection e with e
      exact absurd e take_ne
    | put ss =>
      obtain ⟨r2, h5, h6⟩ := h2
      have e := tup_inj h3 h5
      injection e with _ e
      injection e with e _
      injection e with e
      subst e
      rw [str_inj (tup_inj h4 h6)]
theorem ScAt.inj {H : Hp} {a : Addr} {ps qs : List Pc} (h1 : ScAt H a ps) (h2 : ScAt H a qs) : ps = qs := by
  obtain ⟨as, h3, l1, h4⟩ := h1
  obtain ⟨bs, h5, l2, h6⟩ := h2
  have e := ref_inj (tup_inj h3 h5)
  subst e
  refine List.ext_getElem? fun i => ?_
  by_cases hi : i < as.length
  · have i1 : i < ps.length := by omega
    have i2 : i < qs.length := by omega
    rw [List.getElem?_eq_getElem i1, List.getElem?_eq_getElem i2]
    exact congrArg some (PcAt.inj (h4 i _ _ (List.getElem?_eq_getElem hi) (List.getElem?_eq_getElem i1)) (h6 i _ _ (List.getElem?_eq_getElem hi) (List.getElem?_eq_getElem i2)))
  · rw [List.getElem?_eq_none (by omega), List.getElem?_eq_none (by omega)]
theorem rows_of : ∀ {xs : List V}, (∀ x ∈ xs, Row x) → ∃ rs : List Str, xs = rs.map V.str ∧ ∀ z ∈ rs, OkS z
  | [], _ => ⟨[], rfl, fun z hz => by cases hz⟩
  | x :: xs, h => by
    obtain ⟨z, rfl, oz⟩ := h x List.mem_cons_self
    obtain ⟨rs, rfl, os⟩ := rows_of (xs := xs) fun y hy => h y (List.mem_cons_of_mem _ hy)
    refine ⟨z :: rs, rfl, fun w hw => ?_⟩
    rcases List.mem_cons.mp hw with rfl | hw
    · exact oz
    · exact os w hw
theorem put_iff {H : Hp} {p : Addr} {xs : List V} (h : H p = some (.tup xs)) (h0 : 0 < xs.length) : Put H (.ref p) ↔ ∀ x ∈ xs, Row x := by
  constructor
  · rintro ⟨a, rs, e, hr, _, ok⟩ x hx
    injection e with e
    subst e
    rw [tup_inj h hr] at hx
    obtain ⟨z, hz, rfl⟩ := List.mem_map.mp hx
    exact ⟨z, rfl, ok z hz⟩
  · intro k
    obtain ⟨rs, rfl, ok⟩ := rows_of k
    refine ⟨p, rs, rfl, h, ?_, ok⟩
    rintro rfl
    exact Nat.lt_irrefl 0 h0
theorem pies {H : Hp} : ∀ {xs : List V}, (∀ x ∈ xs, Pie H x) → ∃ as ps, xs = as.map V.ref ∧ PsAt H as ps ∧ ∀ p ∈ ps, p.ok
  | [], _ => ⟨[], [], rfl, .nil, fun p hp => by cases hp⟩
  | x :: xs, h => by
    obtain ⟨a, p, rfl, hp, okp⟩ := h x List.mem_cons_self
    obtain ⟨as, ps, rfl, hps, ok⟩ := pies (xs := xs) fun y hy => h y (List.mem_cons_of_mem _ hy)
    refine ⟨a :: as, p :: ps, rfl, ⟨by rw [List.length_cons, List.length_cons, hps.1], fun i b q h1 h2 => ?_⟩, fun q hq => ?_⟩
    · cases i with
      | zero =>
        cases Option.some.inj h1
        cases Option.some.inj h2
        exact hp
      | succ i => exact hps.2 i b q h1 h2
    · rcases List.mem_cons.mp hq with rfl | hq
      · exact okp
      · exact ok q hq
theorem scr_pies {H : Hp} {p : Addr} {xs : List V} (h : H p = some (.tup xs)) (s : Scr H (.ref p)) : ∀ x ∈ xs, Pie H x := by
  obtain ⟨a, ps, e, ⟨as, ha, hp⟩, ok⟩ := s
  injection e with e
  subst e
  intro x hx
  rw [tup_inj h ha] at hx
  obtain ⟨i, hi, e⟩ := List.getElem_of_mem hx
  obtain ⟨b, q, rfl, h1, h2, h3⟩ := sc_get hp (List.getElem?_eq_some_iff.mpr ⟨hi, e⟩)
  exact ⟨b, q, rfl, h3, ok.ok q (List.mem_of_getElem? h2)⟩
theorem Fit.scr {H : Hp} {x : V} {L : Nat} (f : Fit H x L) : Scr H x := by
  obtain ⟨a, ps, e, sc, ok, _⟩ := f
  exact ⟨a, ps, e, sc, ok⟩
theorem Pie.mono {H H' : Hp} {x : V} (h : Pie H x) (s : Same H H') : Pie H' x := by
  obtain ⟨a, p, e, hp, ok⟩ := h
  exact ⟨a, p, e, hp.mono (.of s), ok⟩
theorem Fit.mono {H H' : Hp} {x : V} {L : Nat} (h : Fit H x L) (s : Same H H') : Fit H' x L := by
  obtain ⟨a, ps, e, hp, r⟩ := h
  exact ⟨a, ps, e, hp.mono (.of s), r⟩
theorem Scr.mono {H H' : Hp} {x : V} (h : Scr H x) (s : Same H H') : Scr H' x := by
  obtain ⟨a, ps, e, hp, r⟩ := h
  exact ⟨a, ps, e, hp.mono (.of s), r⟩
/-- a tuple of any data that stands later stood before -/
theorem Ad.back {D a : Addr} {B : Nat} {H H' : Hp} {xs : List V} (ad : Ad D B H (.ref a)) (s : Same H H') (h : H' a = some (.tup xs)) : H a = some (.tup xs) ∧ ∀ x ∈ xs, Ad D B H x := by
  cases ad with
  | tup n h2 hz ha =>
    have := tup_inj (s _ _ h2) h
    subst this
    exact ⟨h2, ha⟩
  | lst n h2 =>
    have h1 := s _ _ h2
    rw [h] at h1
    cases h1
  | dct n h2 =>
    have h1 := s _ _ h2
    rw [h] at h1
    cases h1
theorem PcAt.back {D a : Addr} {B : Nat} {H H' : Hp} {p : Pc} (ad : Ad D B H (.ref a)) (s : Same H H') (h : PcAt H' a p) : PcAt H a p := by
  cases p with
  | take b m => exact (ad.back s h).1
  | put rs =>
    obtain ⟨q, h1, h2⟩ := h
    obtain ⟨h3, h4⟩ := ad.back s h1
    exact ⟨q, h3, ((h4 (.ref q) (by simp)).back s h2).1⟩
theorem ScAt.back {D a : Addr} {B : Nat} {H H' : Hp} {ps : List Pc} (ad : Ad D B H (.ref a)) (s : Same H H') (h : ScAt H' a ps) : ScAt H a ps := by
  obtain ⟨as, h1, h2, h3⟩ := h
  obtain ⟨h4, h5⟩ := ad.back s h1
  exact ⟨as, h4, h2, fun i b p e1 e2 => (h3 i b p e1 e2).back (h5 _ (List.mem_map.mpr ⟨b, List.mem_of_getElem? e1, rfl⟩)) s⟩
theorem fit_back {D : Addr} {B : Nat} {H H' : Hp} {x : V} {L : Nat} (ad : Ad D B H x) (s : Same H H') (h : Fit H' x L) : Fit H x L := by
  obtain ⟨a, ps, rfl, hp, r⟩ := h
  exact ⟨a, ps, rfl, hp.back ad s, r⟩
theorem scr_back {D : Addr} {B : Nat} {H H' : Hp} {x : V} (ad : Ad D B H x) (s : Same H H') (h : Scr H' x) : Scr H x := by
  obtain ⟨a, ps, rfl, hp, r⟩ := h
  exact ⟨a, ps, rfl, hp.back ad s, r⟩
theorem pie_same {D : Addr} {B : Nat} {H H' : Hp} {x : V} (ad : Ad D B H x) (s : Same H H') : Pie H' x ↔ Pie H x := by
  constructor
  · rintro ⟨a, p, rfl, hp, ok⟩
    exact ⟨a, p, rfl, hp.back ad s, ok⟩
  · exact fun h => h.mono s
/-! ### promises -/
def sp_is_intA (_ : PySem.W.Frag) : Sp := fun vs H Q _ => ∃ (x : V) (D : Addr) (B : Nat), vs = [x] ∧ Ad D B H x ∧ Yx (∃ i, x = .int i) H Q
abbrev sp_l_intA (K : PySem.W.Frag) : Sp := sp_is_intA K
def sp_is_pairA (_ : PySem.W.Frag) : Sp := fun vs H Q _ => ∃ (a : Addr) (xs : List V), vs = [.ref a] ∧ H a = some (.tup xs) ∧ Yn (xs.length = 2) H Q
def sp_is_signA (_ : PySem.W.Frag) : Sp := fun vs H Q _ => ∃ c : Nat, vs = [.str ⟨#[c]⟩] ∧ Yn (OkC c) H Q
def sp_is_textA (_ : PySem.W.Frag) : Sp := fun vs H Q _ => ∃ (x : V) (D : Addr) (B : Nat), vs = [x] ∧ Ad D B H x ∧ B ≤ 1000 ∧ Yn (∃ z, x = .str z ∧ ∀ c ∈ z.cps.toList, OkC c) H Q
def sp_is_rowA (_ : PySem.W.Frag) : Sp := fun vs H Q _ => ∃ (x : V) (D : Addr) (B : Nat), vs = [x] ∧ Ad D B H x ∧ B ≤ 1000 ∧ Yn (Row x) H Q
def sp_are_putA (_ : PySem.W.Frag) : Sp := fun vs H Q _ => ∃ (x : V) (D : Addr) (B : Nat), vs = [x] ∧ Ad D B H x ∧ B ≤ 1000 ∧ Yn (Put H x) H Q
def sp_is_pieceA (_ : PySem.W.Frag) : Sp := fun vs H Q _ => ∃ (x : V) (D : Addr) (B : Nat), vs = [x] ∧ Ad D B H x ∧ B ≤ 1000 ∧ Yn (Pie H x) H Q
def sp_is_scriptA (_ : PySem.W.Frag) : Sp := fun vs H Q _ => ∃ (x : V) (D : Addr) (B : Nat), vs = [x] ∧ Ad D B H x ∧ B ≤ 1000 ∧ Yn (Scr H x) H Q
def sp_is_right_overA (_ : PySem.W.Frag) : Sp := fun vs H Q _ => ∃ (M : Addr) (bs : List Str) (x : V) (D : Addr) (B : Nat), vs = [.ref M, x] ∧ RwAt H M bs ∧ Ad D B H x ∧ B ≤ 1000 ∧ Yn (Fit H x bs.length) H Q
def sp_refuse_wrongA (K : PySem.W.Frag) : Sp := fun vs H Q E => ∃ (M : Addr) (bs : List Str) (x : V) (D : Addr) (B : Nat), vs = [.ref M, x] ∧ RwAt H M bs ∧ Ad D B H x ∧ B ≤ 1000 ∧ (Fit H x bs.length → ∀ H', Same H H' → Q .non H') ∧ (¬ Fit H x bs.length → ∀ H', Same H H' → E (.ref (He.ga K "NoScript")) none H')
def sp_doneA (K : PySem.W.Frag) : Sp := fun vs H Q E => ∃ (M : Addr) (bs : List Str) (x : V) (D : Addr) (B : Nat), vs = [.ref M, x] ∧ RwAt H M bs ∧ Ad D B H x ∧ B ≤ 1000 ∧
  (∀ a ps, x = .ref a → ScAt H a ps → ScOk ps → (∀ p ∈ ps, p.fits bs.length) → ∀ r H', Same H H' → RwAt H' r (makes bs ps) → Q (.ref r) H') ∧ (¬ Fit H x bs.length → ∀ H', Same H H' → E (.ref (He.ga K "NoScript")) none H')
def sp_priceA (K : PySem.W.Frag) : Sp := fun vs H Q E => ∃ (x : V) (D : Addr) (B : Nat) (t p : Int), vs = [x, .int t, .int p] ∧ Ad D B H x ∧ B ≤ 1000 ∧ 0 ≤ t ∧ t ≤ 10000000 ∧ 0 ≤ p ∧ p ≤ 10000000 ∧
  (∀ a ps, x = .ref a → ScAt H a ps → ScOk ps → ∀ H', Same H H' → Q (.int (cost t p ps)) H') ∧ (¬ Scr H x → ∀ H', Same H H' → E (.ref (He.ga K "NoScript")) none H')
def sp_joinedA (K : PySem.W.Frag) : Sp := fun vs H Q E => ∃ (M : Addr) (bs : List Str) (x y : V) (D : Addr) (B : Nat), vs = [.ref M, x, y] ∧ RwAt H M bs ∧ Ad D B H x ∧ Ad D B H y ∧ B ≤ 1000 ∧
  (∀ a ps, x = .ref a → ScAt H a ps → ScOk ps → (∀ p ∈ ps, p.fits bs.length) → Fit H y (total ps) → ∀ r H', Same H H' → Q (.ref r) H') ∧
  (∀ a ps, x = .ref a → ScAt H a ps → ScOk ps → (∀ p ∈ ps, p.fits bs.length) → ¬ Fit H y (total ps) → ∀ H', Same H H' → E (.ref (He.ga K "NoScript")) none H') ∧
  (¬ Fit H x bs.length → ∀ H', Same H H' → E (.ref (He.ga K "NoScript")) none H')
section
variable {K : PySem.W.Frag} {vs : List V} {H : Hp} {Q : VK} {E : XK}
theorem len_is_intA (h : sp_is_intA K vs H Q E) : vs.length = 1 := by obtain ⟨_, _, _, rfl, _⟩ := h; rfl
theorem len_l_intA (h : sp_l_intA K vs H Q E) : vs.length = 1 := len_is_intA h
theorem len_is_pairA (h : sp_is_pairA K vs H Q E) : vs.length = 1 := by obtain ⟨_, _, rfl, _⟩ := h; rfl
theorem len_is_signA (h : sp_is_signA K vs H Q E) : vs.length = 1 := by obtain ⟨_, rfl, _⟩ := h; rfl
theorem len_is_textA (h : sp_is_textA K vs H Q E) : vs.length = 1 := by obtain ⟨_, _, _, rfl, _⟩ := h; rfl
theorem len_is_rowA (h : sp_is_rowA K vs H Q E) : vs.length = 1 := by obtain ⟨_, _, _, rfl, _⟩ := h; rfl
theorem len_are_putA (h : sp_are_putA K vs H Q E) : vs.length = 1 := by obtain ⟨_, _, _, rfl, _⟩ := h; rfl
theorem len_is_pieceA (h : sp_is_pieceA K vs H Q E) : vs.length = 1 := by obtain ⟨_, _, _, rfl, _⟩ := h; rfl
theorem len_is_scriptA (h : sp_is_scriptA K vs H Q E) : vs.length = 1 := by obtain ⟨_, _, _, rfl, _⟩ := h; rfl
theorem len_is_right_overA (h : sp_is_right_overA K vs H Q E) : vs.length = 2 := by obtain ⟨_, _, _, _, _, rfl, _⟩ := h; rfl
theorem len_refuse_wrongA (h : sp_refuse_wrongA K vs H Q E) : vs.length = 2 := by obtain ⟨_, _, _, _, _, rfl, _⟩ := h; rfl
theorem len_doneA (h : sp_doneA K vs H Q E) : vs.length = 2 := by obtain ⟨_, _, _, _, _, rfl, _⟩ := h; rfl
theorem len_priceA (h : sp_priceA K vs H Q E) : vs.length = 3 := by obtain ⟨_, _, _, _, _, rfl, _⟩ := h; rfl
theorem len_joinedA (h : sp_joinedA K vs H Q E) : vs.length = 3 := by obtain ⟨_, _, _, _, _, _, rfl, _⟩ := h; rfl
end
abbrev N_is_intA : List Str := ["thing"]
def t_is_intA (K : PySem.W.Frag) : TS := (tRet (tAndV (tCB (rIsi K) (tCons (tVar 0) (tCons (tC (.ty "int")) tNil))) (tNotV (tCB (rIsi K) (tCons (tVar 0) (tCons (tC (.ty "bool")) tNil))))))
abbrev N_is_textA : List Str := ["thing", "sign"]
def t_is_textA (K : PySem.W.Frag) : TS := (tRet (tAndV (tCB (rIsi K) (tCons (tVar 0) (tCons (tC (.ty "str")) tNil))) (tCB (rAll K) (tCons (tLc (iStr (tVar 0)) (gName 1) tYes (tCall (sp_is_signA K) [] E0 (tCons (tVar 1) tNil)) [1]) tNil))))
abbrev N_is_signA : List Str := ["sign"]
def t_is_signA (K : PySem.W.Frag) : TS := (tRet (tAndV (tChain rLeS rLeS (tC (.str " ")) (tVar 0) (tC (.str "~"))) (tOp rNe (tCB fOrd (tCons (tVar 0) tNil)) (tC (.int 37)))))
abbrev N_is_pairA : List Str := ["thing"]
def t_is_pairA (K : PySem.W.Frag) : TS := (tRet (tAndV (tCB (rIsi K) (tCons (tVar 0) (tCons (tC (.ty "tuple")) tNil))) (tOp rEq (tCB (fLen K) (tCons (tVar 0) tNil)) (tC (.int 2)))))
abbrev N_is_rowA : List Str := ["thing"]
def t_is_rowA (K : PySem.W.Frag) : TS := (tRet (tAndV (tCall (sp_is_textA K) [] E0 (tCons (tVar 0) tNil)) (tOp rLeI (tCB (fLen K) (tCons (tVar 0) tNil)) (tC (.int 40)))))
abbrev N_is_scriptA : List Str := ["thing", "piece"]
def t_is_scriptA_sum (K : PySem.W.Frag) : TS := (tRet (tOp rLeI (tCB (rSum K) (tCons (tLc (iTup K (tVar 0)) (gName 1) tYes (tCall (sp_rows_in K) [] E0 (tCons (tVar 1) tNil)) [1]) tNil)) (tC (.int 40))))
def t_is_scriptA (K : PySem.W.Frag) : TS := (tSeq (tIfS (tOr (tNot (tB (tCB (rIsi K) (tCons (tVar 0) (tCons (tC (.ty "tuple")) tNil))))) (tNot (tB (tCB (rAll K) (tCons (tLc (iTup K (tVar 0)) (gName 1) tYes (tCall (sp_is_pieceA K) [] E0 (tCons (tVar 1) tNil)) [1]) tNil))))) (tRet (tC (.bl false))) tNext)
    (t_is_scriptA_sum K))
abbrev N_is_pieceA : List Str := ["thing"]
def t_is_pieceA_put (K : PySem.W.Frag) : TS := (tRet (tAndV (tOp (rEqS K) (tOp (rIx K) (tVar 0) (tC (.int 0))) (tC (.str "put"))) (tAndV (tCall (sp_is_pairA K) [] E0 (tCons (tVar 0) tNil)) (tCall (sp_are_putA K) [] E0 (tCons (tOp (rIx K) (tVar 0) (tC (.int 1))) tNil)))))
def t_is_pieceA_word (K : PySem.W.Frag) : TS := (tSeq (tIfS (tTest (tOp (rEqS K) (tOp (rIx K) (tVar 0) (tC (.int 0))) (tC (.str "take")))) (tRet (tAndV (tOp rEq (tCB (fLen K) (tCons (tVar 0) tNil)) (tC (.int 3))) (tAndV (tCall (sp_is_intA K) [] E0 (tCons (tOp (rIx K) (tVar 0) (tC (.int 1))) tNil)) (tAndV (tCall (sp_is_intA K) [] E0 (tCons (tOp (rIx K) (tVar 0) (tC (.int 2))) tNil)) (tAndV (tOp rGeI (tOp (rIx K) (tVar 0) (tC (.int 1))) (tC (.int 0))) (tOp rGeI (tOp (rIx K) (tVar 0) (tC (.int 2))) (tC (.int 1)))))))) tNext)
    (t_is_pieceA_put K))
def t_is_pieceA (K : PySem.W.Frag) : TS := (tSeq (tIfS (tOr (tNot (tB (tCB (rIsi K) (tCons (tVar 0) (tCons (tC (.ty "tuple")) tNil))))) (tTest (tOp rEq (tCB (fLen K) (tCons (tVar 0) tNil)) (tC (.int 0))))) (tRet (tC (.bl false))) tNext)
    (t_is_pieceA_word K))
abbrev N_are_putA : List Str := ["thing", "row"]
def t_are_putA (K : PySem.W.Frag) : TS := (tRet (tAndV (tCB (rIsi K) (tCons (tVar 0) (tCons (tC (.ty "tuple")) tNil))) (tAndV (tOp rGtI (tCB (fLen K) (tCons (tVar 0) tNil)) (tC (.int 0))) (tCB (rAll K) (tCons (tLc (iTup K (tVar 0)) (gName 1) tYes (tCall (sp_is_rowA K) [] E0 (tCons (tVar 1) tNil)) [1]) tNil)))))
abbrev N_is_right_overA : List Str := ["base", "thing", "piece"]
def t_is_right_overA (K : PySem.W.Frag) : TS := (tSeq (tIfS (tNot (tB (tCall (sp_is_scriptA K) [] E0 (tCons (tVar 1) tNil)))) (tRet (tC (.bl false))) tNext)
    (tRet (tCB (rAll K) (tCons (tLc (iTup K (tVar 1)) (gName 2) tYes (tOrV (tOp rEq (tOp (rIx K) (tVar 2) (tC (.int 0))) (tC (.str "put"))) (tOp rLeI (tOp rAddI (tOp (rIx K) (tVar 2) (tC (.int 1))) (tOp (rIx K) (tVar 2) (tC (.int 2)))) (tCB (fLen K) (tCons (tVar 0) tNil)))) [2]) tNil))))
abbrev N_refuse_wrongA : List Str := ["base", "thing"]
def t_refuse_wrongA (K : PySem.W.Frag) (E : XK) : TS := (tIfS (tNot (tB (tCall (sp_is_right_overA K) [] E0 (tCons (tVar 0) (tCons (tVar 1) tNil))))) (tRaise E (.ref (He.ga K "NoScript"))) tNext)
abbrev N_doneA : List Str := ["base", "script"]
def t_doneA (K : PySem.W.Frag) (E : XK) : TS := (tSeq (tDrop (tCallS (sp_refuse_wrongA K) (fun _ => E) (tCons (tVar 0) (tCons (tVar 1) tNil))))
    (tRet (tCall (sp_made K) [] E0 (tCons (tVar 0) (tCons (tVar 1) tNil)))))
abbrev N_priceA : List Str := ["script", "take", "put", "piece"]
def t_priceA (K : PySem.W.Frag) (E : XK) : TS := (tSeq (tIfS (tNot (tB (tCall (sp_is_scriptA K) [] E0 (tCons (tVar 0) tNil)))) (tRaise E (.ref (He.ga K "NoScript"))) tNext)
    (tRet (tCB (rSum K) (tCons (tLc (iTup K (tVar 0)) (gName 3) tYes (tIf (tTest (tOp rEq (tOp (rIx K) (tVar 3) (tC (.int 0))) (tC (.str "put")))) (tOp rMulI (tVar 2) (tCall (sp_rows_in K) [] E0 (tCons (tVar 3) tNil))) (tVar 1)) [3]) tNil))))
abbrev N_joinedA : List Str := ["base", "one", "other", "pieces", "piece"]
def t_joinedA (K : PySem.W.Frag) (E : XK) : TS := (tSeq (tDrop (tCallS (sp_refuse_wrongA K) (fun _ => E) (tCons (tVar 0) (tCons (tVar 1) tNil))))
    (tSeq (tDrop (tCallS (sp_refuse_wrongA K) (fun _ => E) (tCons (tCall (sp_made K) [] E0 (tCons (tVar 0) (tCons (tVar 1) tNil))) (tCons (tVar 2) tNil))))
    (tSeq (tAsg (tLst tNil) (gName 3))
    (tSeq (tFor (iTup K (tVar 2)) (gName 4) (tIfS (tTest (tOp rEq (tOp (rIx K) (tVar 4) (tC (.int 0))) (tC (.str "put")))) (tDrop (tBM K "list" rAppend (tVar 3) (tCons (tVar 4) tNil))) (tDrop (tBM K "list" (rExtendA K) (tVar 3) (tCons (tCall (sp_part_of K) [] E0 (tCons (tVar 1) (tCons (tOp (rIx K) (tVar 4) (tC (.int 1))) (tCons (tOp rAddI (tOp (rIx K) (tVar 4) (tC (.int 1))) (tOp (rIx K) (tVar 4) (tC (.int 2)))) tNil)))) tNil)))))
    (tRet (tCB (fTupleOf K) (tCons (tVar 3) tNil)))))))
theorem le_blank (c : Nat) : (!decide ((⟨#[c]⟩ : Str).cps.toList < (" " : Str).cps.toList)) = decide (32 ≤ c) := by
  by_cases h : 32 ≤ c
  · rw [blank_le h, decide_eq_true h]
  · have e : (" " : Str).cps.toList = [32] := by decide +kernel
    rw [e, decide_eq_false h]
    show (!decide ([c] < [32])) = false
    rw [decide_eq_true (List.cons_lt_cons_iff.mpr (.inl (by omega)))]
    rfl
theorem le_til (c : Nat) : (!decide (("~" : Str).cps.toList < (⟨#[c]⟩ : Str).cps.toList)) = decide (c ≤ 126) := by
  by_cases h : c ≤ 126
  · rw [le_tilde h, decide_eq_true h]
  · have e : ("~" : Str).cps.toList = [126] := by decide +kernel
    rw [e, decide_eq_false h]
    show (!decide ([126] < [c])) = false
    rw [decide_eq_true (List.cons_lt_cons_iff.mpr (.inl (by omega)))]
    rfl
section
variable {K : PySem.W.Frag} {vs : List V} {H : Hp} {Q : VK} {E : XK}
theorem pure_is_intA (h : sp_is_intA K vs H Q E) : t_is_intA K { nx := fun _ H' => Q .non H', rt := Q } (start N_is_intA vs) H := by
  obtain ⟨x, D, B, rfl, a, y⟩ := h
  rcases a.intC K with ⟨i, rfl⟩ | ⟨b, rfl⟩ | ⟨⟨ty, t1, t2⟩, hn⟩
  · exact ⟨_, rfl, isi (.base (.int i)) k_ii ⟨_, rfl, iteT ⟨_, rfl, isi (.base (.int i)) k_ib ⟨_, rfl, y.1 ⟨i, rfl⟩⟩⟩⟩⟩
  · exact ⟨_, rfl, isi (.base (.bl b)) k_bi ⟨_, rfl, iteT ⟨_, rfl, isi (.base (.bl b)) k_bb ⟨_, rfl, y.2 (by rintro ⟨i, e⟩; cases e)⟩⟩⟩⟩
  · exact ⟨_, rfl, isi t1 t2 ⟨_, rfl, iteF (y.2 (by rintro ⟨i, e⟩; exact hn i e))⟩⟩
theorem pure_l_intA (h : sp_l_intA K vs H Q E) : t_l_int K { nx := fun _ H' => Q .non H', rt := Q } (start N_l_int vs) H := pure_is_intA h
theorem int_weak {i : Int} (q : Q (.bl true) H) : sp_l_intA K [.int i] H Q E := ⟨.int i, 0, 0, rfl, .int i, fun _ => q, fun n => absurd ⟨i, rfl⟩ n⟩
theorem pure_is_pairA (h : sp_is_pairA K vs H Q E) : t_is_pairA K { nx := fun _ H' => Q .non H', rt := Q } (start N_is_pairA vs) H := by
  obtain ⟨a, xs, rfl, ha, y⟩ := h
  refine ⟨_, rfl, isi (.base (.tup ha)) k_tt ⟨_, rfl, iteT ⟨_, rfl, lenT ha ⟨rfl, y.dec ⟨fun e => ?_, fun e => ?_⟩⟩⟩⟩⟩
  · injection e with e
    omega
  · rw [e]
    rfl
theorem pure_is_signA (h : sp_is_signA K vs H Q E) : t_is_signA K { nx := fun _ H' => Q .non H', rt := Q } (start N_is_signA vs) H := by
  obtain ⟨c, rfl, y⟩ := h
  refine ⟨_, rfl, _, _, rfl, rfl, _, rfl, ?_⟩
  rw [le_blank c]
  by_cases h1 : 32 ≤ c
  · rw [decide_eq_true h1]
    refine iteT ⟨_, _, rfl, rfl, _, rfl, ?_⟩
    rw [le_til c]
    by_cases h2 : c ≤ 126
    · rw [decide_eq_true h2]
      refine iteT ⟨_, rfl, _, rfl, rfl, rfl, ?_⟩
      by_cases h3 : c = 37
      · subst h3
        exact y.no fun o => o.2.2 rfl
      · have e : decide (V.int (((⟨#[c]⟩ : Str).cps.getD 0 0 : Nat) : Int) = V.int 37) = false := decide_eq_false (by
          intro h
          injection h with h
          have h : (c : Int) = 37 := h
          omega)
        rw [e]
        exact y.yes ⟨h1, h2, h3⟩
    · rw [decide_eq_false h2]
      exact iteF (y.no fun o => h2 o.2.1)
  · rw [decide_eq_false h1]
    exact iteF ⟨_, rfl, iteF (y.no fun o => h1 o.1)⟩
theorem pure_is_textA (h : sp_is_textA K vs H Q E) : t_is_textA K { nx := fun _ H' => Q .non H', rt := Q } (start N_is_textA vs) H := by
  obtain ⟨x, D, B, rfl, a, hB, y⟩ := h
  rcases a.strC K with ⟨z, rfl, tz⟩ | ⟨⟨ty, t1, t2⟩, hn⟩
  · have l1 := tz.1
    refine ⟨_, rfl, isi (.base (.str z)) k_ss ⟨_, rfl, iteT ⟨_, rfl, z, rfl, fun L nL => ?_⟩⟩⟩
    refine lc_grow walk_str yStr (ys := z.cps.toList.map fun c => V.bl (dc (OkC c))) nL (by rw [List.length_map, Array.length_toList]) (by omega) (fun _ _ => True.intro) ?_ ?_
    · rintro i x y' H' R hi ⟨_, c, hc, rfl⟩ hy s r
      rw [List.getElem?_map, Array.getElem?_toList, hc] at hy
      cases Option.some.inj hy
      exact ⟨rfl, ⟨_, rfl, c, rfl, Yn.of fun H'' s2 => r _ s2⟩⟩
    · intro H' s hL
      refine ⟨L, z.cps.toList.map fun c => dc (OkC c), rfl, sqL (by rw [hL, List.map_map]; rfl), ?_⟩
      rw [dc_all, dc_congr (show (∀ c ∈ z.cps.toList, OkC c) ↔ ∃ w, V.str z = .str w ∧ ∀ c ∈ w.cps.toList, OkC c from ⟨fun k => ⟨z, rfl, k⟩, by rintro ⟨w, e, k⟩; injection e with e; subst e; exact k⟩)]
      exact y.run s
  · exact ⟨_, rfl, isi t1 t2 ⟨_, rfl, iteF (y.no (by rintro ⟨z, e, _⟩; exact hn z e))⟩⟩
theorem pure_is_rowA (h : sp_is_rowA K vs H Q E) : t_is_rowA K { nx := fun _ H' => Q .non H', rt := Q } (start N_is_rowA vs) H := by
  obtain ⟨x, D, B, rfl, a, hB, y⟩ := h
  refine ⟨_, rfl, x, D, B, rfl, a, hB, fun p H' s => ?_, fun p H' s => ⟨_, rfl, iteF (y.2 ?_ _ s)⟩⟩
  · obtain ⟨z, rfl, oc⟩ := p
    have l1 : z.cps.size ≤ B := by
      cases a with
      | str h => exact h.1
    refine ⟨_, rfl, iteT ⟨_, rfl, lenS (show z.cps.size ≤ 1000 by omega) ⟨_, _, rfl, rfl, ?_⟩⟩⟩
    have e : ((z.length : Nat) : Int) ≤ 40 ↔ Row (.str z) := by
      constructor
      · intro k
        have k : ((z.cps.size : Nat) : Int) ≤ 40 := k
        exact ⟨z, rfl, by omega, oc⟩
      · rintro ⟨w, e, o⟩
        injection e with e
        subst e
        have := o.1
        show ((z.cps.size : Nat) : Int) ≤ 40
        omega
    show Q (.bl (decide (((z.length : Nat) : Int) ≤ 40))) H'
    rw [dc_dec, dc_congr e]
    exact y.run s
  · rintro ⟨z, e, o⟩
    exact p ⟨z, e, o.2⟩
theorem pure_are_putA (h : sp_are_putA K vs H Q E) : t_are_putA K { nx := fun _ H' => Q .non H', rt := Q } (start N_are_putA vs) H := by
  obtain ⟨x, D, B, rfl, a, hB, y⟩ := h
  rcases a.tupC K with ⟨p, xs, rfl, n, hp, hz, ha⟩ | ⟨⟨ty, t1, t2⟩, hn⟩
  · refine ⟨_, rfl, isi (.base (.tup hp)) k_tt ⟨_, rfl, iteT ⟨_, rfl, lenT hp ⟨_, _, rfl, rfl, _, rfl, ?_⟩⟩⟩⟩
    by_cases h0 : (0 : Int) < (xs.length : Int)
    · rw [decide_eq_true h0]
      refine iteT ⟨_, rfl, p, rfl, ⟨_, sqT hp⟩, fun L nL => ?_⟩
      refine lc_grow (walk_tup (xs := xs)) yAt (ys := xs.map fun x => V.bl (dc (Row x))) nL (by rw [List.length_map]) (by omega) (fun H' s => sqT (s _ _ hp)) ?_ ?_
      · rintro i x y' H' R hi ⟨_, hx⟩ hy s r
        rw [List.getElem?_map, hx] at hy
        cases Option.some.inj hy
        exact ⟨rfl, ⟨_, rfl, x, D, B, rfl, (ha x (List.mem_of_getElem? hx)).same s, hB, Yn.of fun H'' s2 => r _ s2⟩⟩
      · intro H' s hL
        refine ⟨L, xs.map fun x => dc (Row x), rfl, sqL (by rw [hL, List.map_map]; rfl), ?_⟩
        rw [dc_all, ← dc_congr (put_iff hp (by omega))]
        exact y.run s
    · rw [decide_eq_false h0]
      refine iteF (y.no ?_)
      rintro ⟨q, rs, e, hr, hne, _⟩
      injection e with e
      subst e
      rw [tup_inj hp hr, List.length_map] at h0
      have := List.length_pos_iff.mpr hne
      omega
  · refine ⟨_, rfl, isi t1 t2 ⟨_, rfl, iteF (y.no ?_)⟩⟩
    rintro ⟨q, rs, e, hr, _, _⟩
    exact hn q _ e hr
theorem is_piece_put {a : Addr} {x0 : V} {r : List V} {D : Addr} {B : Nat} (ha : H a = some (.tup (x0 :: r))) (hB : B ≤ 1000) (hx : ∀ y ∈ x0 :: r, Ad D B H y) (ht : x0 ≠ .str "take") (y : Yn (Pie H (.ref a)) H Q) : t_is_pieceA_put K { nx := fun _ H' => Q .non H', rt := Q } [some (.ref a)] H := by
  have noP : (∀ q rs, x0 = .str "put" → r = [.ref q] → ¬ (RwAt H q rs ∧ rs ≠ [] ∧ ∀ z ∈ rs, OkS z)) → ¬ Pie H (.ref a) := by
    rintro k ⟨b, p, e, hp, ok⟩
    injection e with e
    subst e
    cases p with
    | take b m =>
      have e := tup_inj ha hp
      injection e with e _
      exact ht e
    | put rs =>
      obtain ⟨q, h3, h4⟩ := hp
      have e := tup_inj ha h3
      injection e with e1 e2
      exact k q rs e1 e2 ⟨h4, ok.1, ok.2⟩
  refine ⟨_, rfl, ixT ha at0 ((hx x0 List.mem_cons_self).eqS (fun e => ?_) fun e => ?_)⟩
  · refine ⟨_, rfl, iteT ⟨_, rfl, a, _, rfl, ha, fun l2 H1 s1 => ?_, fun l2 H1 s1 => ?_⟩⟩
    · match r, l2 with
      | [d], _ =>
        refine ⟨_, rfl, iteT ⟨_, rfl, ixT (s1 _ _ ha) rfl ⟨d, D, B, rfl, (hx d (List.mem_cons_of_mem _ List.mem_cons_self)).same s1, hB, fun p H2 s2 => ?_, fun p H2 s2 => ?_⟩⟩⟩
        · obtain ⟨q, rs, e2, hr, hne, ok⟩ := p
          refine y.1 ⟨a, .put rs, rfl, ⟨q, ?_, ?_⟩, hne, ok⟩ _ (s1.trans s2)
          · rw [ha, e, e2]
          · -- the rows stood there before
            have aq := hx d (List.mem_cons_of_mem _ List.mem_cons_self)
            rw [e2] at aq
            rcases aq.tupC K with ⟨q2, xs, e3, _, hq, _, _⟩ | ⟨_, hn⟩
            · injection e3 with e3
              subst e3
              have := tup_inj (s1 _ _ hq) hr
              show H q = _
              rw [hq, this]
            · cases aq with
              | tup n h => exact absurd h (hn _ _ rfl)
              | lst n h =>
                have h1 := s1 _ _ h
                rw [show H1 q = some (.tup (rs.map V.str)) from hr] at h1
                cases h1
              | dct n h =>
                have h1 := s1 _ _ h
                rw [show H1 q = some (.tup (rs.map V.str)) from hr] at h1
                cases h1
        · refine y.2 (noP fun q rs _ e2 k => ?_) _ (s1.trans s2)
          injection e2 with e2
          exact p ⟨q, rs, e2, s1 _ _ k.1, k.2.1, k.2.2⟩
    · refine ⟨_, rfl, iteF (y.2 (noP fun q rs _ e2 => ?_) _ s1)⟩
      rw [e2] at l2
      exact absurd rfl l2
  · exact ⟨_, rfl, iteF (y.no (noP fun q rs e2 => absurd e2 e))⟩
theorem pure_is_pieceA (h : sp_is_pieceA K vs H Q E) : t_is_pieceA K { nx := fun _ H' => Q .non H', rt := Q } (start N_is_pieceA vs) H := by
  obtain ⟨x, D, B, rfl, a, hB, y⟩ := h
  rcases a.tupC K with ⟨p, xs, rfl, n, hp, hz, ha⟩ | ⟨⟨ty, t1, t2⟩, hn⟩
  · refine ⟨_, rfl, isi (.base (.tup hp)) k_tt ⟨_, rfl, iteF ⟨_, rfl, lenT hp ⟨rfl, _, rfl, ?_⟩⟩⟩⟩
    cases xs with
    | nil =>
      refine iteT (y.no ?_)
      rintro ⟨b, q, e, hq, ok⟩
      injection e with e
      subst e
      cases q with
      | take b m => have e := tup_inj hp hq; cases e
      | put rs => obtain ⟨q, h3, h4⟩ := hq; have e := tup_inj hp h3; cases e
    | cons x0 r =>
      rw [decide_eq_false (show ¬ V.int (((x0 :: r).length : Nat) : Int) = V.int 0 by intro e; injection e with e; rw [List.length_cons] at e; omega)]
      refine iteF ?_
      refine ⟨_, rfl, ixT hp at0 ((ha x0 List.mem_cons_self).eqS (fun e => ?_) fun e => ?_)⟩
      · subst e
        have noT : (∀ i j, r = [.int i, .int j] → ¬ (0 ≤ i ∧ 1 ≤ j)) → ¬ Pie H (.ref p) := by
          rintro k ⟨b, q, e, hq, ok⟩
          injection e with e
          subst e
          cases q with
          | take b m =>
            have e := tup_inj hp hq
            injection e with _ e
            have ok : 1 ≤ m := ok
            exact k _ _ e ⟨by omega, by omega⟩
          | put rs =>
            obtain ⟨q, h3, h4⟩ := hq
            have e := tup_inj hp h3
            injection e with e _
            injection e with e
            exact take_ne e
        refine ⟨_, rfl, iteT ⟨_, rfl, lenT hp ⟨rfl, _, rfl, ?_⟩⟩⟩
        by_cases l3 : (V.str "take" :: r).length = 3
        · rw [decide_eq_true (show V.int (((V.str "take" :: r).length : Nat) : Int) = V.int 3 by rw [l3]; rfl)]
          match r, l3 with
          | [u, v], _ =>
            refine iteT ⟨_, rfl, ixT hp rfl ⟨u, D, B, rfl, ha u (by simp), Yn.x ⟨fun q H1 s1 => ?_, fun q H1 s1 => ?_⟩⟩⟩
            · obtain ⟨i, rfl⟩ := q
              refine ⟨_, rfl, iteT ⟨_, rfl, ixT (s1 _ _ hp) rfl ⟨v, D, B, rfl, (ha v (by simp)).same s1, Yn.x ⟨fun q H2 s2 => ?_, fun q H2 s2 => ?_⟩⟩⟩⟩
              · obtain ⟨j, rfl⟩ := q
                have s12 := s1.trans s2
                refine ⟨_, rfl, iteT ⟨_, rfl, ixT (s12 _ _ hp) rfl ⟨_, _, rfl, rfl, _, rfl, ?_⟩⟩⟩
                by_cases i0 : 0 ≤ i
                · rw [decide_eq_true i0]
                  refine iteT ⟨_, rfl, ixT (s12 _ _ hp) rfl ⟨_, _, rfl, rfl, ?_⟩⟩
                  show Q (.bl (decide ((1 : Int) ≤ j))) H2
                  rw [dc_dec]
                  rw [dc_congr (show (1 : Int) ≤ j ↔ Pie H (.ref p) from ⟨fun j1 => ?_, fun k => ?_⟩)]
                  · exact y.run s12
                  · obtain ⟨b, rfl⟩ := Int.eq_ofNat_of_zero_le i0
                    obtain ⟨m, rfl⟩ := Int.eq_ofNat_of_zero_le (show (0 : Int) ≤ j by omega)
                    exact ⟨p, .take b m, rfl, hp, show 1 ≤ m by omega⟩
                  · by_cases j1 : 1 ≤ j
                    · exact j1
                    · exact absurd k (noT fun i' j' e => by
                        injection e with _ e
                        injection e with e _
                        injection e with e
                        omega)
                · rw [decide_eq_false i0]
                  refine iteF (y.2 (noT fun i' j' e => ?_) _ s12)
                  injection e with e _
                  injection e with e
                  omega
              · refine ⟨_, rfl, iteF (y.2 (noT fun i' j' e => ?_) _ (s1.trans s2))⟩
                injection e with _ e
                injection e with e _
                exact absurd ⟨j', e⟩ q
            · refine ⟨_, rfl, iteF (y.2 (noT fun i' j' e => ?_) _ s1)⟩
              injection e with e _
              exact absurd ⟨i', e⟩ q
        · rw [decide_eq_false (show ¬ V.int (((V.str "take" :: r).length : Nat) : Int) = V.int 3 by intro e; injection e with e; omega)]
          refine iteF (y.no (noT fun i j e => ?_))
          rw [e] at l3
          exact absurd rfl l3
      · exact ⟨_, rfl, iteF (is_piece_put hp hB ha e y)⟩
  · refine ⟨_, rfl, isi t1 t2 ⟨_, rfl, iteT (iteT (y.no ?_))⟩⟩
    rintro ⟨b, q, e, hq, ok⟩
    cases q with
    | take b m => exact hn _ _ e hq
    | put rs => obtain ⟨q, h3, h4⟩ := hq; exact hn _ _ e h3
end
end Fw

set_option Elab.async false
set_option linter.all false
set_option maxRecDepth 100000
set_option maxHeartbeats 4000000
namespace Fw
open PySem L2 RZ RT
theorem sum_n : ∀ ps : List Pc, (ps.map fun p => (p.n : Int)).sum = ((total ps : Nat) : Int)
  | [] => rfl
  | p :: ps => by
    rw [List.map_cons, List.sum_cons, sum_n ps]
    show _ = ((p.n + total ps : Nat) : Int)
    omega
theorem scr_iff {H : Hp} {a : Addr} {ps : List Pc} (sc : ScAt H a ps) (ok : ∀ p ∈ ps, p.ok) : Scr H (.ref a) ↔ ((total ps : Nat) : Int) ≤ 40 := by
  constructor
  · rintro ⟨b, qs, e, sq, oq⟩
    injection e with e
    subst e
    rw [ScAt.inj sc sq]
    have := oq.few
    omega
  · intro h
    exact ⟨a, ps, rfl, sc, ok, by omega⟩
theorem fit_iff {H : Hp} {a : Addr} {ps : List Pc} {L : Nat} (sc : ScAt H a ps) (ok : ScOk ps) : Fit H (.ref a) L ↔ ∀ p ∈ ps, p.fits L := by
  constructor
  · rintro ⟨b, qs, e, sq, _, f⟩
    injection e with e
    subst e
    rw [ScAt.inj sc sq]
    exact f
  · intro h
    exact ⟨a, ps, rfl, sc, ok, h⟩
section
variable {K : PySem.W.Frag} {vs : List V} {H : Hp} {Q : VK} {E : XK}
theorem pure_is_scriptA (h : sp_is_scriptA K vs H Q E) : t_is_scriptA K { nx := fun _ H' => Q .non H', rt := Q } (start N_is_scriptA vs) H := by
  obtain ⟨x, D, B, rfl, a, hB, y⟩ := h
  rcases a.tupC K with ⟨p, xs, rfl, n, hp, hz, ha⟩ | ⟨⟨ty, t1, t2⟩, hn⟩
  · refine ⟨_, rfl, isi (.base (.tup hp)) k_tt ⟨_, rfl, iteF ⟨_, rfl, p, rfl, ⟨_, sqT hp⟩, fun L nL => ?_⟩⟩⟩
    refine lc_grow (walk_tup (xs := xs)) yAt (ys := xs.map fun x => V.bl (dc (Pie H x))) nL (by rw [List.length_map]) (by omega) (fun H' s => sqT (s _ _ hp)) ?_ ?_
    · rintro i x y' H' R hi ⟨_, hx⟩ hy s r
      rw [List.getElem?_map, hx] at hy
      cases Option.some.inj hy
      have ax := ha x (List.mem_of_getElem? hx)
      refine ⟨rfl, ⟨_, rfl, x, D, B, rfl, ax.same s, hB, Yn.of fun H'' s2 => ?_⟩⟩
      rw [dc_congr (pie_same ax s)]
      exact r _ s2
    · intro H1 s1 hL
      refine ⟨L, xs.map fun x => dc (Pie H x), rfl, sqL (by rw [hL, List.map_map]; rfl), ?_⟩
      rw [dc_all]
      by_cases k : ∀ x ∈ xs, Pie H x
      · rw [dcT k]
        obtain ⟨as, ps, rfl, hps, ok⟩ := pies k
        have hps1 := hps.mono (.of s1)
        have hl : (as.map V.ref).length = ps.length := by rw [List.length_map, hps.1]
        refine ⟨_, rfl, iteF ⟨_, rfl, p, rfl, ⟨_, sqT (s1 _ _ hp)⟩, fun L2 nL2 => ?_⟩⟩
        refine lc_grow (walk_tup (xs := as.map V.ref)) yAt (ys := (ps.map fun p => (p.n : Int)).map V.int) nL2 (by rw [List.length_map, List.length_map, hl]) (by omega) (fun H' s => sqT (s _ _ (s1 _ _ hp))) ?_ ?_
        · rintro i x y' H' R hi ⟨_, hx⟩ hy s r
          obtain ⟨b, q, rfl, h1, h2, h3⟩ := sc_get (hps1.mono (.of s)) hx
          rw [List.getElem?_map, List.getElem?_map, h2] at hy
          cases Option.some.inj hy
          exact ⟨rfl, ⟨_, rfl, b, q, rfl, h3, r _ (Same.refl _)⟩⟩
        · intro H2 s2 hL2
          refine ⟨L2, _, rfl, sqL hL2, _, _, rfl, rfl, ?_⟩
          rw [sum_n]
          show Q (.bl (decide (((total ps : Nat) : Int) ≤ 40))) H2
          rw [dc_dec, ← dc_congr (scr_iff ⟨as, hp, hps⟩ ok)]
          exact y.run (s1.trans s2)
      · rw [dcF k]
        exact ⟨_, rfl, iteT (y.2 (fun sc => k (scr_pies hp sc)) _ s1)⟩
  · refine ⟨_, rfl, isi t1 t2 ⟨_, rfl, iteT (iteT (y.no ?_))⟩⟩
    rintro ⟨b, ps, e, ⟨as, hq, _⟩, _⟩
    exact hn _ _ e hq
theorem pure_is_right_overA (h : sp_is_right_overA K vs H Q E) : t_is_right_overA K { nx := fun _ H' => Q .non H', rt := Q } (start N_is_right_overA vs) H := by
  obtain ⟨M, bs, x, D, B, rfl, hM, a, hB, y⟩ := h
  refine ⟨_, rfl, x, D, B, rfl, a, hB, fun p H1 s1 => ?_, fun p H1 s1 => ?_⟩
  · obtain ⟨c, ps, rfl, sc, ok⟩ := p
    have sc1 := sc.mono (.of s1)
    obtain ⟨as, ha, hp⟩ := sc1
    have hM1 : H1 M = some (.tup (bs.map V.str)) := s1 _ _ hM
    have hl : (as.map V.ref).length = ps.length := by rw [List.length_map, hp.1]
    have hz := ok.len
    refine ⟨_, rfl, iteF ⟨_, rfl, c, rfl, ⟨_, sqT ha⟩, fun L nL => ?_⟩⟩
    refine lc_grow (walk_tup (xs := as.map V.ref)) yAt (ys := ps.map fun p => V.bl (dc (p.fits bs.length))) nL (by rw [List.length_map, hl]) (by omega) (fun H' s => sqT (s _ _ ha)) ?_ ?_
    · rintro i x y' H' R hi ⟨_, hx⟩ hy s r
      obtain ⟨b, p, rfl, h1, h2, h3⟩ := sc_get (hp.mono (.of s)) hx
      rw [List.getElem?_map, h2] at hy
      cases Option.some.inj hy
      refine ⟨rfl, ?_⟩
      cases p with
      | take c m =>
        refine ⟨_, rfl, ixT h3 rfl ⟨rfl, _, rfl, ?_⟩⟩
        rw [take_put]
        refine iteF ⟨_, rfl, ixT h3 rfl ⟨_, rfl, ixT h3 rfl ⟨_, _, rfl, rfl, _, rfl, lenT (s _ _ hM1) ⟨_, _, rfl, rfl, ?_⟩⟩⟩⟩
        show R (.bl (decide ((c : Int) + (m : Int) ≤ ((bs.map V.str).length : Int)))) _
        rw [dc_dec, dc_congr (show (c : Int) + (m : Int) ≤ ((bs.map V.str).length : Int) ↔ (Pc.take c m).fits bs.length from ⟨fun k => ?_, fun k => ?_⟩)]
        · exact r _ (Same.refl _)
        · rw [List.length_map] at k
          show c + m ≤ bs.length
          omega
        · rw [List.length_map]
          have k : c + m ≤ bs.length := k
          omega
      | put rs =>
        obtain ⟨q, h4, h5⟩ := h3
        refine ⟨_, rfl, ixT h4 rfl ⟨rfl, _, rfl, ?_⟩⟩
        rw [decide_eq_true rfl]
        have e : R (.bl (dc ((Pc.put rs).fits bs.length))) H' := r _ (Same.refl _)
        rw [dcT (show (Pc.put rs).fits bs.length from True.intro)] at e
        exact iteT e
    · intro H2 s2 hL
      refine ⟨L, ps.map fun p => dc (p.fits bs.length), rfl, sqL (by rw [hL, List.map_map]; rfl), ?_⟩
      rw [dc_all, ← dc_congr (fit_iff sc ok)]
      exact y.run (s1.trans s2)
  · exact ⟨_, rfl, iteT (y.2 (fun f => p f.scr) _ s1)⟩
theorem pure_refuse_wrongA (h : sp_refuse_wrongA K vs H Q E) : t_refuse_wrongA K E { nx := fun _ H' => Q .non H', rt := Q } (start N_refuse_wrongA vs) H := by
  obtain ⟨M, bs, x, D, B, rfl, hM, a, hB, ky, kn⟩ := h
  exact ⟨_, rfl, _, rfl, M, bs, x, D, B, rfl, hM, a, hB, fun p H1 s1 => ⟨_, rfl, iteF (ky p _ s1)⟩, fun p H1 s1 => ⟨_, rfl, iteT (kn p _ s1)⟩⟩
theorem pure_doneA (h : sp_doneA K vs H Q E) : t_doneA K E { nx := fun _ H' => Q .non H', rt := Q } (start N_doneA vs) H := by
  obtain ⟨M, bs, x, D, B, rfl, hM, a, hB, ky, kn⟩ := h
  refine ⟨_, rfl, _, rfl, M, bs, x, D, B, rfl, hM, a, hB, fun p H1 s1 => ?_, kn⟩
  obtain ⟨c, ps, rfl, sc, ok, fit⟩ := p
  exact ⟨_, rfl, _, rfl, M, c, bs, ps, rfl, s1 _ _ hM, sc.mono (.of s1), ok, fit, fun r H2 s2 hr => ky c ps rfl sc ok fit r H2 (s1.trans s2) hr⟩
theorem pure_priceA (h : sp_priceA K vs H Q E) : t_priceA K E { nx := fun _ H' => Q .non H', rt := Q } (start N_priceA vs) H := by
  obtain ⟨x, D, B, t, p, rfl, a, hB, t0, t1, p0, p1, ky, kn⟩ := h
  refine ⟨_, rfl, x, D, B, rfl, a, hB, fun q H1 s1 => ⟨_, rfl, iteF ?_⟩, fun q H1 s1 => ⟨_, rfl, iteT (kn q _ s1)⟩⟩
  obtain ⟨c, ps, rfl, sc, ok⟩ := q
  obtain ⟨as, ha, hp⟩ := sc.mono (.of s1)
  have hl : (as.map V.ref).length = ps.length := by rw [List.length_map, hp.1]
  have hz := ok.len
  refine ⟨_, rfl, c, rfl, ⟨_, sqT ha⟩, fun L nL => ?_⟩
  refine lc_grow (walk_tup (xs := as.map V.ref)) yAt (ys := (ps.map (Pc.cost t p)).map V.int) nL (by rw [List.length_map, List.length_map, hl]) (by omega) (fun H' s => sqT (s _ _ ha)) ?_ ?_
  · rintro i x y H' R hi ⟨_, hx⟩ hy s r
    obtain ⟨b, q, rfl, h1, h2, h3⟩ := sc_get (hp.mono (.of s)) hx
    rw [List.getElem?_map, List.getElem?_map, h2] at hy
    cases Option.some.inj hy
    refine ⟨rfl, ?_⟩
    cases q with
    | take c m =>
      refine ⟨_, rfl, ixT h3 rfl ⟨rfl, _, rfl, ?_⟩⟩
      rw [take_put]
      exact iteF ⟨_, rfl, r _ (Same.refl _)⟩
    | put rs =>
      have h30 := h3
      obtain ⟨q, h4, h5⟩ := h3
      refine ⟨_, rfl, ixT h4 rfl ⟨rfl, _, rfl, ?_⟩⟩
      rw [decide_eq_true rfl]
      exact iteT ⟨_, rfl, _, rfl, b, .put rs, rfl, h30, _, _, rfl, rfl, .inl ⟨by omega, by omega⟩, r _ (Same.refl _)⟩
  · intro H2 s2 hL
    exact ⟨L, _, rfl, sqL hL, ky c ps rfl sc ok _ (s1.trans s2)⟩
theorem pure_joinedA (h : sp_joinedA K vs H Q E) : t_joinedA K E { nx := fun _ H' => Q .non H', rt := Q } (start N_joinedA vs) H := by
  obtain ⟨M0, bs, x, y, D, B, rfl, hB, ax, ay, hz, ky, km, kn⟩ := h
  refine ⟨_, rfl, _, rfl, M0, bs, x, D, B, rfl, hB, ax, hz, fun p H1 g1 => ?_, kn⟩
  obtain ⟨s1, one, rfl, sc1, ok1, fit1⟩ := p
  have lm := makes_len fit1
  refine ⟨_, rfl, _, rfl, M0, s1, bs, one, rfl, g1 _ _ hB, sc1.mono (.of g1), ok1, fit1, fun M H2 g2 hM => ⟨_, rfl, M, makes bs one, y, D, B, rfl, hM, ay.same (g1.trans g2), hz, fun p H3 g3 => ?_, fun p H3 g3 => ?_⟩⟩
  · rw [lm] at p
    have g0 := g1.trans g2
    have p0 : Fit H y (total one) := fit_back ay g0 p
    obtain ⟨s2, other, rfl, sc2, ok2, fit2⟩ := id p0
    have k := ky s1 one rfl sc1 ok1 fit1 p0
    have g : Same H H3 := g0.trans g3
    have c1 := sc1.mono (.of g)
    obtain ⟨as, ha, hp⟩ := sc2.mono (.of g)
    clear g1 g2 g3 hM sc1 sc2 p p0 g0 ky km kn
    refine ⟨Nat.zero_le _, fun L nL => ⟨_, rfl, s2, rfl, ⟨_, sqT (updN (ne_of_none ha nL) ha)⟩, ?_⟩⟩
    refine for_tup (K := K) (a := s2) (xs := as.map V.ref) (fun i σ H' => Same H3 H' ∧ ∃ (cs : List Addr) (z4 : Option V), H' L = some (.lst (cs.map V.ref)) ∧ LsAt (PcAt H') cs (join one (other.take i)) ∧ σ = [some (.ref M0), some (.ref s1), some (.ref s2), some (.ref L), z4]) ⟨Same.upd nL, [], none, updS, .nil, rfl⟩ (fun i σ H' _ p => sqT (p.1 _ _ ha)) ?_ ?_
    · rintro i x σ H' hx ⟨q1, cs, z4, hL, hc, rfl⟩
      obtain ⟨c, p, rfl, h1, h2, h3⟩ := sc_get (hp.mono (.of q1)) hx
      have lc : cs.length ≤ 40 := by rw [hc.1]; exact join_len ok1 ok2 fit2 i
      have f := fit2 p (List.mem_of_getElem? h2)
      have ej := join_snoc (f := one) h2
      have l1 := join_len ok1 ok2 fit2 (i + 1)
      cases p with
      | take b m =>
        refine ⟨_, rfl, ixT h3 rfl ⟨rfl, _, rfl, ?_⟩⟩
        rw [take_put]
        refine iteF ⟨_, rfl, .inl ⟨rfl, _, sqL hL⟩, _, rfl, _, rfl, ixT h3 rfl ⟨_, rfl, ixT h3 rfl ⟨_, rfl, ixT h3 rfl ⟨_, _, rfl, rfl, s1, one, b, b + m, _, _, rfl, rfl, by omega, c1.mono (.of q1), Nat.le_trans ok1.len (by decide), fun M ds H4 g4 hM hd => ?_⟩⟩⟩⟩
        rw [part_eq (Pos.of_ok ok1.ok)] at hd
        have ld : ds.length ≤ 40 := by
          rw [hd.1]
          rw [ej, List.length_append] at l1
          have : (sub one (.take b m)).length = (tk m (dr b one)).length := rfl
          omega
        have tm : TM H4 (upd H4 L (.lst (cs.map V.ref ++ ds.map V.ref))) := fun a xs h => updN (ne_of h (g4 _ _ hL) (by intro z; cases z)) h
        refine ⟨L, M, _, _, rfl, rfl, g4 _ _ hL, .inl hM, by rw [List.length_map, List.length_map]; omega, Same.updI (q1.trans g4) nL, cs ++ ds, _, ?_, ?_, rfl⟩
        · rw [updS, List.map_append]
        · rw [ej]
          exact ((hc.mono (PcAt.mono' (.of g4))).append hd).mono (PcAt.mono' tm)
      | put rs =>
        have h30 := h3
        obtain ⟨q, h4, h5⟩ := h3
        refine ⟨_, rfl, ixT h4 rfl ⟨rfl, _, rfl, ?_⟩⟩
        rw [decide_eq_true rfl]
        have tm : TM H' (upd H' L (.lst (cs.map V.ref ++ [.ref c]))) := fun a xs h => updN (ne_of h hL (by intro z; cases z)) h
        refine iteT ⟨_, rfl, .inl ⟨rfl, _, sqL hL⟩, _, rfl, L, _, _, rfl, rfl, hL, by rw [List.length_map]; exact Nat.lt_of_le_of_lt lc (by decide), Same.updI q1 nL, cs ++ [c], _, ?_, ?_, rfl⟩
        · rw [updS, List.map_append]
          rfl
        · rw [ej]
          exact (hc.snoc h30).mono (PcAt.mono' tm)
    · rintro σ H' ⟨q1, cs, z4, hL, hc, rfl⟩
      exact ⟨_, rfl, L, _, rfl, .inl ⟨sqL hL, fun r nr => k r _ ((g.trans q1).trans (Same.upd nr))⟩⟩
  · rw [lm] at p
    have g0 := g1.trans g2
    exact km s1 one rfl sc1 ok1 fit1 (fun f => p (f.mono g0)) _ (g0.trans g3)
end
end Fw

set_option Elab.async false
set_option linter.all false
set_option maxRecDepth 100000
set_option maxHeartbeats 4000000
namespace Fw
open PySem L2 RZ RT
theorem samNw {H : Hp} {q : Addr} {o : HO} (n : H q = none) : Same H (upd H q o) := fun b u e => updN (ne_of_none e n) e
theorem samFr {H H' : Hp} {q : Addr} (s : Same H H') (h : H' q = none) : H q = none := by
  cases e : H q with
  | none => rfl
  | some o => rw [s _ _ e] at h; cases h
theorem ne_same {D : Addr} {H H' : Hp} (s : Same H H') (h : H D ≠ none) : H' D ≠ none := fun e => by
  cases q : H D with
  | none => exact h q
  | some o => rw [s _ _ q] at e; cases e
theorem ne_new {D p : Addr} {H : Hp} (h : H D ≠ none) (n : H p = none) : p ≠ D := fun e => h (by rw [← e]; exact n)
theorem dk_some {c D : Addr} {ns : List Int} {t : Nat} {H : Hp} (d : Dk c D ns t H) : H D ≠ none := fun e => by
  obtain ⟨xs, h⟩ := d.someD
  rw [h] at e
  cases e
/-! ### literals -/
def txB (z : Str) : Bool := decide (z.cps.size ≤ 41) && z.cps.toList.all fun c => !decide (c = 37)
theorem txB_ok {z : Str} (h : txB z = true) : TxOk 41 z := by
  unfold txB at h
  rw [Bool.and_eq_true, decide_eq_true_eq, List.all_eq_true] at h
  exact ⟨h.1, fun c hc e => by have := h.2 c hc; rw [decide_eq_true e] at this; cases this⟩
def EvX (D : Addr) (te : TE) : Prop := ∀ (σ : L2.St) (H : Hp) (Q : VK), H D ≠ none → (∀ x H', Same H H' → Ad D 41 H' x → Q x H') → te σ H Q
def EvXs (D : Addr) (ta : TA) (n : Nat) : Prop := ∀ (σ : L2.St) (H : Hp) (Q : List V → Hp → Prop), H D ≠ none → (∀ xs H', Same H H' → xs.length = n → (∀ x ∈ xs, Ad D 41 H' x) → Q xs H') → ta σ H Q
section
variable {D : Addr} {K : PySem.W.Frag}
theorem EvX.non : EvX D (tC .non) := fun σ H Q _ k => k _ _ (Same.refl H) .non
theorem EvX.bl {b : Bool} : EvX D (tC (.bl b)) := fun σ H Q _ k => k _ _ (Same.refl H) (.bl b)
theorem EvX.int {i : Int} : EvX D (tC (.int i)) := fun σ H Q _ k => k _ _ (Same.refl H) (.int i)
theorem EvX.neg {i : Int} : EvX D (tUn rNegI (tC (.int i))) := fun σ H Q _ k => ⟨_, rfl, k _ _ (Same.refl H) (.int _)⟩
theorem EvX.str {z : Str} (h : txB z = true) : EvX D (tC (.str z)) := fun σ H Q _ k => k _ _ (Same.refl H) (.str (txB_ok h))
theorem EvX.pow : EvX D (tOp rPowI (tC (.int 10)) (tC (.int 30))) := fun σ H Q _ k => ⟨_, _, rfl, rfl, ⟨by decide, by decide, by decide⟩, k _ _ (Same.refl H) (.int _)⟩
theorem EvX.dnew : EvX D tDNewK := fun σ H Q h k p hp => k _ _ (samNw hp) (.dct (ne_new h hp) updS)
theorem EvX.disp : EvX D (tDisp ((tC (.int 0), tC (.int 1)) :: [])) := fun σ H Q h k p hp => by
  refine ⟨updS, [(.inl 0, .int 1)], rfl, by decide, ?_⟩
  rw [upd_upd]
  exact k _ _ (samNw hp) (.dct (ne_new h hp) updS)
theorem EvX.mulS : EvX D (tOp rRepS (tC (.str "a")) (tC (.int 41))) := fun σ H Q h k => by
  refine ⟨("a" : Str), 41, rfl, rfl, by decide, by decide, by decide +kernel, by decide +kernel, by decide +kernel, ?_⟩
  exact k _ _ (Same.refl H) (.str (txB_ok (by decide +kernel)))
theorem EvX.mulT : EvX D (tOp (rRepT K) (tTup (tCons (tC (.str "a")) tNil)) (tC (.int 41))) := fun σ H Q h k => by
  refine ⟨by show (1 : Nat) ≤ sizeLine; decide, fun p np => ?_⟩
  refine ⟨p, 41, [.str "a"], rfl, rfl, sqT updS, (by intro e; cases e), by decide, by decide, by decide, fun q nq => ?_⟩
  have s1 := samNw (o := .tup [V.str "a"]) np
  refine k _ _ (s1.trans (samNw nq)) (.tup (ne_new (ne_same s1 h) nq) updS (by decide) fun x hx => ?_)
  have e : x = V.str "a" := by
    rw [show (List.replicate (41 : Int).toNat [V.str "a"]).flatten = List.replicate 41 (V.str "a") from rfl] at hx
    exact List.eq_of_mem_replicate hx
  rw [e]
  exact .str (txB_ok (by decide +kernel))
theorem EvXs.nil : EvXs D tNil 0 := fun σ H Q _ k => k _ _ (Same.refl H) rfl fun x hx => by cases hx
theorem EvXs.cons {te : TE} {ta : TA} {n : Nat} (h : EvX D te) (r : EvXs D ta n) : EvXs D (tCons te ta) (n + 1) := fun σ H Q hD k => by
  refine h σ H _ hD fun x H1 s1 o1 => r σ H1 _ (ne_same s1 hD) fun xs H2 s2 hl ho => k _ _ (s1.trans s2) (by rw [List.length_cons, hl]) fun y hy => ?_
  rcases List.mem_cons.mp hy with rfl | hy
  · exact o1.same s2
  · exact ho y hy
theorem EvX.tup {ta : TA} {n : Nat} (h : EvXs D ta n) (hn : n ≤ 41) : EvX D (tTup ta) := fun σ H Q hD k => by
  refine h σ H _ hD fun xs H1 s1 hl ho => ⟨Nat.le_trans (by omega : xs.length ≤ 41) (by decide), fun p hp => ?_⟩
  have s2 := samNw (o := .tup xs) hp
  exact k _ _ (s1.trans s2) (.tup (ne_new (ne_same s1 hD) hp) updS (by omega) fun x hx => (ho x hx).same s2)
theorem EvX.lst {ta : TA} {n : Nat} (h : EvXs D ta n) (hn : n ≤ 41) : EvX D (tLst ta) := fun σ H Q hD k => by
  refine h σ H _ hD fun xs H1 s1 hl ho => ⟨Nat.le_trans (by omega : xs.length ≤ 41) (by decide), fun p hp => ?_⟩
  have s2 := samNw (o := .lst xs) hp
  exact k _ _ (s1.trans s2) (.lst (ne_new (ne_same s1 hD) hp) updS (by omega) fun x hx => (ho x hx).same s2)
/-- a list of literals -/
theorem lit_list {ta : TA} {n : Nat} {σ : L2.St} {H : Hp} {R : VK} (h : EvXs D ta n) (hn : n ≤ 41) (hD : H D ≠ none) (k : ∀ p xs H', Same H H' → H p = none → H' p = some (.lst xs) → xs.length = n → (∀ x ∈ xs, Ad D 41 H' x) → R (.ref p) H') : tLst ta σ H R := by
  refine h σ H _ hD fun xs H1 s1 hl ho => ⟨Nat.le_trans (by omega : xs.length ≤ 41) (by decide), fun p hp => ?_⟩
  have s2 := samNw (o := .lst xs) hp
  exact k p xs _ (s1.trans s2) (samFr s1 hp) updS hl fun x hx => (ho x hx).same s2
theorem lit_set {ta : TA} {n : Nat} {g : TG} {E : Ends} {σ : L2.St} {H : Hp} (h : EvXs D ta n) (hn : n ≤ 41) (hD : H D ≠ none) (k : ∀ p xs H', Same H H' → H p = none → H' p = some (.lst xs) → xs.length = n → (∀ x ∈ xs, Ad D 41 H' x) → g (.ref p) σ H' E.nx) : tAsg (tLst ta) g E σ H := lit_list h hn hD k
/-- a list and a list of literals behind it -/
theorem lit_cat {ta : TA} {n m : Nat} {σ : L2.St} {H : Hp} {R : VK} {p : Addr} {xs : List V} (hp : H p = some (.lst xs)) (hm : xs.length = m) (hm2 : m ≤ 1000) (ho : ∀ x ∈ xs, Ad D 41 H x) (h : EvXs D ta n) (hn : n ≤ 41) (hD : H D ≠ none)
    (k : ∀ r ys H', Same H H' → H r = none → H' r = some (.lst ys) → ys.length = m + n → (∀ x ∈ ys, Ad D 41 H' x) → R (.ref r) H') : tLst ta σ H fun y H1 => rCat (.ref p) y H1 R := by
  refine lit_list h hn hD fun q ys H1 s1 nq hq hl oy => ⟨p, q, xs, ys, rfl, rfl, s1 _ _ hp, hq, Nat.le_trans (by omega : xs.length + ys.length ≤ 2000) (by decide), fun r nr => ?_⟩
  have s2 := samNw (o := .lst (xs ++ ys)) nr
  refine k r _ _ (s1.trans s2) (samFr s1 nr) updS (by rw [List.length_append]; omega) fun x hx => ?_
  rcases List.mem_append.mp hx with hx | hx
  · exact (ho x hx).same (s1.trans s2)
  · exact (oy x hx).same s2
end
/-! ### _law_odd -/
def sp_l_odd (_ : PySem.W.Frag) : Sp := fun vs H Q _ => ∃ (c D : Addr) (ns : List Int) (t : Nat), vs = [.ref D] ∧ Dk c D ns t H ∧ t < 1000000 ∧ ∀ x H', Kp D H H' → Dk c D ns (t + 1) H' → Ad D 41 H' x → Q x H'
abbrev N_l_odd : List Str := ["_law_deck_here", "_law_some"]
def t_l_odd_f (K : PySem.W.Frag) : TS := (tRet (tOp (rIx K) (tVar 1) (tCall (sp_l_draw K) [] E0 (tCons (tVar 0) (tCons (tCB (fLen K) (tCons (tVar 1) tNil)) tNil)))))
def t_l_odd_e (K : PySem.W.Frag) : TS := (tSeq (tAsg (tOp rCat (tVar 1) (tLst (tCons (tTup (tCons (tC (.str "apart")) (tCons (tTup tNil) (tCons (tTup tNil) tNil)))) (tCons (tTup (tCons (tC (.str "apart")) (tCons (tTup (tCons (tC (.int 0)) tNil)) (tCons (tTup tNil) tNil)))) (tCons (tTup (tCons (tC (.int 0)) (tCons (tC (.int 0)) (tCons (tC .non) tNil)))) (tCons (tTup (tCons (tC (.int 0)) (tCons (tC .non) (tCons (tC (.int 0)) tNil)))) (tCons (tTup (tCons (tTup (tCons (tTup (tCons (tTup (tCons (tTup (tCons (tTup (tCons (tTup (tCons (tTup (tCons (tTup (tCons (tTup (tCons (tC (.int 0)) tNil)) tNil)) tNil)) tNil)) tNil)) tNil)) tNil)) tNil)) tNil)) tNil)) tNil))))))) (gName 1))
    (t_l_odd_f K))
def t_l_odd_d (K : PySem.W.Frag) : TS := (tSeq (tAsg (tOp rCat (tVar 1) (tLst (tCons (tTup (tCons (tC (.str "put")) (tCons (tTup tNil) tNil))) (tCons (tTup (tCons (tC (.str "put")) (tCons (tTup (tCons (tC (.str "")) tNil)) tNil))) (tCons (tTup (tCons (tC (.str "put")) (tCons (tC (.str "a")) tNil))) (tCons (tTup (tCons (tC (.str "put")) tNil)) (tCons (tTup (tCons (tC (.str "put")) (tCons (tTup (tCons (tC (.int 1)) tNil)) tNil))) (tCons (tTup (tCons (tC (.str "cut")) (tCons (tC (.int 0)) (tCons (tC (.int 1)) tNil)))) (tCons (tTup (tCons (tC (.str "ahead")) (tCons (tTup (tCons (tC (.int 0)) tNil)) tNil))) tNil))))))))) (gName 1))
    (t_l_odd_e K))
def t_l_odd_c (K : PySem.W.Frag) : TS := (tSeq (tAsg (tOp rCat (tVar 1) (tLst (tCons (tTup (tCons (tC (.str "take")) (tCons (tC (.int 0)) (tCons (tC (.int 1)) tNil)))) (tCons (tTup (tCons (tC (.str "take")) (tCons (tC (.int 0)) (tCons (tC (.int 0)) tNil)))) (tCons (tTup (tCons (tC (.str "take")) (tCons (tUn rNegI (tC (.int 1))) (tCons (tC (.int 1)) tNil)))) (tCons (tTup (tCons (tC (.str "take")) (tCons (tC (.bl true)) (tCons (tC (.int 1)) tNil)))) (tCons (tTup (tCons (tC (.str "take")) (tCons (tC (.int 0)) (tCons (tC (.int 1)) (tCons (tC (.int 0)) tNil))))) (tCons (tTup (tCons (tC (.str "take")) (tCons (tC (.int 0)) tNil))) tNil)))))))) (gName 1))
    (t_l_odd_d K))
def t_l_odd_b (K : PySem.W.Frag) : TS := (tSeq (tAsg (tOp rCat (tVar 1) (tLst (tCons (tTup (tCons (tTup tNil) tNil)) (tCons (tTup (tCons (tTup tNil) (tCons (tTup tNil) tNil))) (tCons (tTup (tCons (tC (.str "a")) tNil)) (tCons (tLst (tCons (tC (.str "a")) tNil)) (tCons (tTup (tCons (tOp rRepS (tC (.str "a")) (tC (.int 41))) tNil)) (tCons (tTup (tCons (tC (.str "a
b")) tNil)) (tCons (tOp (rRepT K) (tTup (tCons (tC (.str "a")) tNil)) (tC (.int 41))) (tCons (tTup (tCons (tC (.int 1)) tNil)) (tCons (tTup (tCons (tC .non) tNil)) (tCons (tDisp (((tC (.int 0)), (tC (.int 1))) :: [])) tNil)))))))))))) (gName 1))
    (t_l_odd_c K))
def t_l_odd (K : PySem.W.Frag) : TS := (tSeq (tAsg (tLst (tCons (tC .non) (tCons (tC (.bl true)) (tCons (tC (.bl false)) (tCons (tUn rNegI (tC (.int 1))) (tCons (tC (.int 0)) (tCons (tC (.int 1)) (tCons (tC (.int 2)) (tCons (tC (.int 3)) (tCons (tC (.int 40)) (tCons (tC (.int 41)) (tCons (tOp rPowI (tC (.int 10)) (tC (.int 30))) (tCons (tC (.str "")) (tCons (tC (.str "a")) (tCons (tC (.str "take")) (tCons (tC (.str "put")) (tCons (tTup tNil) (tCons (tLst tNil) (tCons tDNewK (tCons (tTup (tCons (tC (.int 0)) tNil)) (tCons (tTup (tCons (tC (.int 0)) (tCons (tC (.int 1)) tNil))) (tCons (tLst (tCons (tC (.int 0)) tNil)) tNil)))))))))))))))))))))) (gName 1))
    (t_l_odd_b K))
theorem len_l_odd {K : PySem.W.Frag} {vs : List V} {H : Hp} {Q : VK} {E : XK} (h : sp_l_odd K vs H Q E) : vs.length = 1 := by
  obtain ⟨_, _, _, _, rfl, _⟩ := h
  rfl
theorem pure_l_odd {K : PySem.W.Frag} {vs : List V} {H : Hp} {Q : VK} {E : XK} (h : sp_l_odd K vs H Q E) : t_l_odd K { nx := fun _ H' => Q .non H', rt := Q } (start N_l_odd vs) H := by
  obtain ⟨c, D, ns, t, rfl, dk, ht, k⟩ := h
  have hD := dk_some dk
  unfold t_l_odd
  refine lit_set (D := D) (n := 21) (by repeat' (first | exact EvX.non | exact EvX.bl | exact EvX.int | exact EvX.neg | exact EvX.str (by decide +kernel) | exact EvX.pow | exact EvX.dnew | exact EvX.disp | exact EvXs.nil | apply EvXs.cons | apply EvX.tup | apply EvX.lst | decide)) (by decide) hD fun p1 xs1 H1 s1 n1 hp1 hl1 ho1 => ?_
  show t_l_odd_b K { nx := fun _ H' => Q .non H', rt := Q } [some (.ref D), some (.ref p1)] H1
  unfold t_l_odd_b
  refine ⟨_, rfl, lit_cat (D := D) (n := 10) hp1 hl1 (by decide) ho1 (by repeat' (first | exact EvX.non | exact EvX.bl | exact EvX.int | exact EvX.neg | exact EvX.mulS | exact EvX.mulT | exact EvX.str (by decide +kernel) | exact EvX.pow | exact EvX.dnew | exact EvX.disp | exact EvXs.nil | apply EvXs.cons | apply EvX.tup | apply EvX.lst | decide)) (by decide) (ne_same s1 hD) fun p2 xs2 H2 s2 n2 hp2 hl2 ho2 => ?_⟩
  have w2 := s1.trans s2
  clear hp1 hl1 ho1 n1 n2
  show t_l_odd_c K { nx := fun _ H' => Q .non H', rt := Q } [some (.ref D), some (.ref p2)] H2
  unfold t_l_odd_c
  refine ⟨_, rfl, lit_cat (D := D) (n := 6) hp2 hl2 (by decide) ho2 (by repeat' (first | exact EvX.non | exact EvX.bl | exact EvX.int | exact EvX.neg | exact EvX.str (by decide +kernel) | exact EvXs.nil | apply EvXs.cons | apply EvX.tup | apply EvX.lst | decide)) (by decide) (ne_same w2 hD) fun p3 xs3 H3 s3 n3 hp3 hl3 ho3 => ?_⟩
  have w3 := w2.trans s3
  clear hp2 hl2 ho2 n3
  show t_l_odd_d K { nx := fun _ H' => Q .non H', rt := Q } [some (.ref D), some (.ref p3)] H3
  unfold t_l_odd_d
  refine ⟨_, rfl, lit_cat (D := D) (n := 7) hp3 hl3 (by decide) ho3 (by repeat' (first | exact EvX.non | exact EvX.bl | exact EvX.int | exact EvX.neg | exact EvX.str (by decide +kernel) | exact EvXs.nil | apply EvXs.cons | apply EvX.tup | apply EvX.lst | decide)) (by decide) (ne_same w3 hD) fun p4 xs4 H4 s4 n4 hp4 hl4 ho4 => ?_⟩
  have w4 := w3.trans s4
  clear hp3 hl3 ho3 n4
  show t_l_odd_e K { nx := fun _ H' => Q .non H', rt := Q } [some (.ref D), some (.ref p4)] H4
  unfold t_l_odd_e
  refine ⟨_, rfl, lit_cat (D := D) (n := 5) hp4 hl4 (by decide) ho4 (by repeat' (first | exact EvX.non | exact EvX.bl | exact EvX.int | exact EvX.neg | exact EvX.str (by decide +kernel) | exact EvXs.nil | apply EvXs.cons | apply EvX.tup | apply EvX.lst | decide)) (by decide) (ne_same w4 hD) fun p5 xs5 H5 s5 n5 hp5 hl5 ho5 => ?_⟩
  have w5 := w4.trans s5
  show t_l_odd_f K { nx := fun _ H' => Q .non H', rt := Q } [some (.ref D), some (.ref p5)] H5
  have d5 := dk.same w5
  have hpD : p5 ≠ D := (dk.same w4).neD n5
  have hlen : xs5.length = 49 := hl5
  refine ⟨_, rfl, _, rfl, _, rfl, lenL hp5 ⟨c, D, ns, t, _, rfl, d5, by omega, ?_, small100 ?_, fun v H6 v0 v1 d6 fr6 => ?_⟩⟩
  · rw [hlen]; decide
  · rw [hlen]; decide
  · rw [hlen] at v1
    obtain ⟨m, rfl⟩ := Int.eq_ofNat_of_zero_le v0
    have hm : m < xs5.length := by omega
    refine ixL (by rw [fr6 _ hpD]; exact hp5) (atI_nat (List.getElem?_eq_getElem hm)) ?_
    exact k _ _ ((Kp.of_same w5).trans (Kp.fr fr6)) d6 ((ho5 _ (List.getElem_mem hm)).mono (Kp.fr fr6) (Nat.le_refl _))
end Fw

set_option Elab.async false
set_option linter.all false
set_option maxRecDepth 100000
set_option maxHeartbeats 4000000
namespace Fw
open PySem L2 RZ RT
/-! ### slices and sums of tuples beside the deck -/
section
variable {K : PySem.W.Frag} {D a b : Addr} {H : Hp} {xs ys : List V} {Q : VK}
theorem sl_step {lo hi : Option Int} (na : a ≠ D) (hD : H D ≠ none) (h : H a = some (.tup xs)) (k : ∀ q zs H', Same H H' → q ≠ D → H' q = some (.tup zs) → zs.length ≤ HT.sIx xs.length xs.length hi - HT.sIx xs.length 0 lo → (∀ y ∈ zs, y ∈ xs) → Q (.ref q) H') : rSlA K (.ref a) lo hi H Q := by
  refine ⟨a, xs, rfl, sqT h, fun e => k a xs H (Same.refl H) na h (by rw [e.1, e.2]; exact Nat.le_refl _) fun y hy => hy, fun _ p np => k p _ _ (samNw np) (ne_new hD np) updS ?_ fun y hy => ?_⟩
  · unfold cutV
    rw [List.length_take]
    exact Nat.min_le_left _ _
  · unfold cutV at hy
    exact List.mem_of_mem_drop (List.mem_of_mem_take hy)
theorem sl_stepN {lo : Option Int} {σ : L2.St} (na : a ≠ D) (hD : H D ≠ none) (h : H a = some (.tup xs)) (k : ∀ q zs H', Same H H' → q ≠ D → H' q = some (.tup zs) → zs.length ≤ HT.sIx xs.length xs.length none - HT.sIx xs.length 0 lo → (∀ y ∈ zs, y ∈ xs) → Q (.ref q) H') : tNoPart σ H fun u H3 => rSlA K (.ref a) lo u H3 Q := sl_step na hD h k
theorem cat_step (na : a ≠ D) (nb : b ≠ D) (hD : H D ≠ none) (ha : H a = some (.tup xs)) (hb : H b = some (.tup ys)) (hz : xs.length + ys.length ≤ 1000) (k : ∀ q H', Same H H' → q ≠ D → H' q = some (.tup (xs ++ ys)) → Q (.ref q) H') : rCatA K (.ref a) (.ref b) H Q := by
  refine ⟨a, b, xs, ys, rfl, rfl, sqT ha, sqT hb, Nat.le_trans hz (by decide), fun e => k b H (Same.refl H) nb (by rw [e]; exact hb), fun _ e => k a H (Same.refl H) na (by rw [e, List.append_nil]; exact ha), fun _ _ p np => k p _ (samNw np) (ne_new hD np) updS⟩
end
/-! ### _law_bent -/
def sp_bentN (_ : PySem.W.Frag) (n : Nat) : Sp := fun vs H Q _ => ∃ (c D : Addr) (ns : List Int) (t : Nat) (x : V) (B : Nat), vs = [.ref D, x, .int ((n : Int) - 1)] ∧ 0 < n ∧ Dk c D ns t H ∧ t + 3 * n < 1000000 ∧ Ad D B H x ∧ 41 ≤ B ∧ B ≤ 100 ∧
  ∀ x' H', Kp D H H' → Dk c D ns (t + 3 * n) H' → Ad D (B + 1) H' x' → Q x' H'
abbrev sp_l_bent (K : PySem.W.Frag) : Sp := sp_bentN K 5
def sp_l_spoiled (_ : PySem.W.Frag) : Sp := fun vs H Q _ => ∃ (c D : Addr) (ns : List Int) (t : Nat) (x : V) (i : Int), vs = [.ref D, x, .int i] ∧ Dk c D ns t H ∧ t + 50 < 1000000 ∧ Ad D 41 H x ∧ 0 ≤ i ∧ i ≤ 2 ∧
  ∀ x' H', Kp D H H' → Dk c D ns (t + 50) H' → Ad D 43 H' x' → Q x' H'
theorem len_bentN {K : PySem.W.Frag} {n : Nat} {vs : List V} {H : Hp} {Q : VK} {E : XK} (h : sp_bentN K n vs H Q E) : vs.length = 3 := by
  obtain ⟨_, _, _, _, _, _, rfl, _⟩ := h
  rfl
theorem len_l_spoiled {K : PySem.W.Frag} {vs : List V} {H : Hp} {Q : VK} {E : XK} (h : sp_l_spoiled K vs H Q E) : vs.length = 3 := by
  obtain ⟨_, _, _, _, _, _, rfl, _⟩ := h
  rfl
abbrev N_l_bent : List Str := ["_law_deck_here", "_law_thing", "_law_deep_in", "_law_turn", "_law_place"]
def t_l_bent_odd (K : PySem.W.Frag) (n : Nat) : TS := (tRet (tCall (sp_l_odd K) [] E0 (tCons (tVar 0) tNil)))
def t_l_bent_txt (K : PySem.W.Frag) (n : Nat) : TS := (tSeq (tIfS (tAnd (tB (tCB (rIsi K) (tCons (tVar 1) (tCons (tC (.ty "str")) tNil)))) (tTest (tOp rGtI (tVar 3) (tC (.int 4))))) (tRet (tOp rAddS (tOp rAddS (tSl rSlS (tVar 1) tNoPart (tPart (tC (.int 1)))) (tOp (rIx K) (tC (.str "abcdefghijklmnopqrstuvwxyz")) (tCall (sp_l_draw K) [] E0 (tCons (tVar 0) (tCons (tC (.int 26)) tNil))))) (tSl rSlS (tVar 1) (tPart (tC (.int 1))) tNoPart))) tNext)
    (t_l_bent_odd K n))
def t_l_bent_fst (K : PySem.W.Frag) (n : Nat) : TS := (tSeq (tIfS (tAnd (tB (tCall (sp_l_intA K) [] E0 (tCons (tVar 1) tNil))) (tTest (tOp rGtI (tVar 3) (tC (.int 1))))) (tRet (tOp rAddI (tVar 1) (tOp (rIx K) (tLst (tCons (tUn rNegI (tC (.int 1))) (tCons (tC (.int 1)) (tCons (tC (.int 2)) (tCons (tUn rNegI (tC (.int 2))) (tCons (tOp rSubI (tUn rNegI (tVar 1)) (tC (.int 1))) (tCons (tC (.int 40)) tNil))))))) (tCall (sp_l_draw K) [] E0 (tCons (tVar 0) (tCons (tC (.int 6)) tNil)))))) tNext)
    (t_l_bent_txt K n))
def t_l_bent_last (K : PySem.W.Frag) (n : Nat) : TS := (tRet (tOp (rCatA K) (tOp (rCatA K) (tSl (rSlA K) (tVar 1) tNoPart (tPart (tVar 4))) (tTup (tCons (tCall (sp_bentN K n) [] E0 (tCons (tVar 0) (tCons (tOp (rIx K) (tVar 1) (tVar 4)) (tCons (tOp rSubI (tVar 2) (tC (.int 1))) tNil)))) tNil))) (tSl (rSlA K) (tVar 1) (tPart (tOp rAddI (tVar 4) (tC (.int 1)))) tNoPart)))
def t_l_bent_four (K : PySem.W.Frag) (n : Nat) : TS := (tSeq (tIfS (tTest (tOp rEq (tVar 3) (tC (.int 4)))) (tRet (tOp (rCatA K) (tOp (rCatA K) (tOp (rCatA K) (tSl (rSlA K) (tVar 1) tNoPart (tPart (tVar 4))) (tSl (rSlA K) (tVar 1) (tPart (tOp rAddI (tVar 4) (tC (.int 1)))) (tPart (tOp rAddI (tVar 4) (tC (.int 2)))))) (tTup (tCons (tOp (rIx K) (tVar 1) (tVar 4)) tNil))) (tSl (rSlA K) (tVar 1) (tPart (tOp rAddI (tVar 4) (tC (.int 2)))) tNoPart))) tNext)
    (t_l_bent_last K n))
def t_l_bent_three (K : PySem.W.Frag) (n : Nat) : TS := (tSeq (tIfS (tTest (tOp rEq (tVar 3) (tC (.int 3)))) (tRet (tOp (rCatA K) (tSl (rSlA K) (tVar 1) tNoPart (tPart (tOp rAddI (tVar 4) (tC (.int 1))))) (tSl (rSlA K) (tVar 1) (tPart (tVar 4)) tNoPart))) tNext)
    (t_l_bent_four K n))
def t_l_bent_two (K : PySem.W.Frag) (n : Nat) : TS := (tSeq (tIfS (tTest (tOp rEq (tVar 3) (tC (.int 2)))) (tRet (tOp (rCatA K) (tSl (rSlA K) (tVar 1) tNoPart (tPart (tVar 4))) (tSl (rSlA K) (tVar 1) (tPart (tOp rAddI (tVar 4) (tC (.int 1)))) tNoPart))) tNext)
    (t_l_bent_three K n))
def t_l_bent_at (K : PySem.W.Frag) (n : Nat) : TS := (tSeq (tAsg (tCall (sp_l_draw K) [] E0 (tCons (tVar 0) (tCons (tCB (fLen K) (tCons (tVar 1) tNil)) tNil))) (gName 4))
    (t_l_bent_two K n))
def t_l_bent_len (K : PySem.W.Frag) (n : Nat) : TS := (tSeq (tIfS (tTest (tOp rEq (tCB (fLen K) (tCons (tVar 1) tNil)) (tC (.int 0)))) (tRet (tTup (tCons (tCall (sp_l_odd K) [] E0 (tCons (tVar 0) tNil)) tNil))) tNext)
    (t_l_bent_at K n))
def t_l_bent_one (K : PySem.W.Frag) (n : Nat) : TS := (tSeq (tIfS (tTest (tOp rEq (tVar 3) (tC (.int 1)))) (tRet (tCB (fListOf K) (tCons (tVar 1) tNil))) tNext)
    (t_l_bent_len K n))
def t_l_bent (K : PySem.W.Frag) (n : Nat) : TS := (tSeq (tAsg (tCall (sp_l_draw K) [] E0 (tCons (tVar 0) (tCons (tC (.int 8)) tNil))) (gName 3))
    (tSeq (tIfS (tOr (tTest (tOp rEq (tVar 2) (tC (.int 0)))) (tOr (tTest (tOp rEq (tVar 3) (tC (.int 0)))) (tNot (tB (tCB (rIsi K) (tCons (tVar 1) (tCons (tC (.ty "tuple")) tNil))))))) (t_l_bent_fst K n) tNext)
    (t_l_bent_one K n)))
abbrev N_l_spoiled : List Str := ["_law_deck_here", "_law_thing", "_law_times", "_law_k"]
def t_l_spoiled (K : PySem.W.Frag) : TS := (tSeq (tFor (iRng1 (tCons (tVar 2) tNil)) (gName 3) (tAsg (tCall (sp_l_bent K) [] E0 (tCons (tVar 0) (tCons (tVar 1) (tCons (tC (.int 4)) tNil)))) (gName 1)))
    (tRet (tVar 1)))
theorem pick6 {w a b c d e f : Int} (h0 : 0 ≤ w) (h1 : w < 6) : ∃ m : Int, atI [V.int a, .int b, .int c, .int d, .int e, .int f] w = some (.int m) := by
  have : w = 0 ∨ w = 1 ∨ w = 2 ∨ w = 3 ∨ w = 4 ∨ w = 5 := by omega
  rcases this with rfl | rfl | rfl | rfl | rfl | rfl
  · exact ⟨_, rfl⟩
  · exact ⟨_, rfl⟩
  · exact ⟨_, rfl⟩
  · exact ⟨_, rfl⟩
  · exact ⟨_, rfl⟩
  · exact ⟨_, rfl⟩
theorem letters : ∀ c ∈ ("abcdefghijklmnopqrstuvwxyz" : Str).cps.toList, c ≠ 37 := by
  have h : (("abcdefghijklmnopqrstuvwxyz" : Str).cps.toList.all fun x => !decide (x = 37)) = true := by decide +kernel
  intro c hc e
  have := List.all_eq_true.mp h c hc
  rw [decide_eq_true e] at this
  cases this
theorem letters_len : ("abcdefghijklmnopqrstuvwxyz" : Str).cps.toList.length = 26 := by decide +kernel
theorem cutS_len (z : Str) (lo hi : Option Int) : (cutS z lo hi).length ≤ z.length := by
  show (List.take _ (z.cps.toList.drop _)).toArray.size ≤ z.cps.size
  rw [List.size_toArray, List.length_take, List.length_drop, Array.length_toList]
  omega
theorem str_app_len (a b : Str) : (a ++ b).length = a.length + b.length := by
  show (a.cps ++ b.cps).size = a.cps.size + b.cps.size
  exact Array.size_append
/-- a text with a sign more -/
theorem txt_more {B : Nat} {z : Str} {c : Nat} (h : TxOk B z) (hc : c ≠ 37) : TxOk (B + 1) (cutS z none (some 1) ++ (⟨#[c]⟩ : Str) ++ cutS z (some 1) none) := by
  have e1 : HT.sIx z.length z.length (some 1) = min 1 z.length := HT.sIx_nat z.length z.length 1
  have e2 : HT.sIx z.length 0 (some 1) = min 1 z.length := HT.sIx_nat z.length 0 1
  have e : (cutS z none (some 1) ++ (⟨#[c]⟩ : Str) ++ cutS z (some 1) none).cps.toList = z.cps.toList.take (min 1 z.length) ++ [c] ++ (z.cps.toList.drop (min 1 z.length)).take (z.length - min 1 z.length) := by
    unfold cutS
    rw [e1, e2, HT.sIx_none, HT.sIx_none]
    show (((List.take (min 1 z.length - 0) (z.cps.toList.drop 0)).toArray ++ #[c]) ++ (List.take (z.length - min 1 z.length) (z.cps.toList.drop (min 1 z.length))).toArray).toList = _
    simp
  have lz : z.length = z.cps.size := rfl
  have h1 := h.1
  refine ⟨?_, fun d hd => ?_⟩
  · rw [← Array.length_toList, e, List.length_append, List.length_append, List.length_take, List.length_take, List.length_drop, Array.length_toList, List.length_singleton]
    omega
  · rw [e] at hd
    rcases List.mem_append.mp hd with hd | hd
    · rcases List.mem_append.mp hd with hd | hd
      · exact h.2 d (List.mem_of_mem_take hd)
      · rw [List.mem_singleton.mp hd]
        exact hc
    · exact h.2 d (List.mem_of_mem_drop (List.mem_of_mem_take hd))
theorem pure_l_bent {K : PySem.W.Frag} {n : Nat} {vs : List V} {H : Hp} {Q : VK} {E : XK} (h : sp_bentN K (n + 1) vs H Q E) : t_l_bent K n { nx := fun _ H' => Q .non H', rt := Q } (start N_l_bent vs) H := by
  obtain ⟨c, D, ns, t, x, B, rfl, _, dk, ht, o, hB0, hB1, k⟩ := h
  refine ⟨_, rfl, c, D, ns, t, 8, rfl, dk, by omega, by decide, by decide, fun road H1 r0 r1 d1 fr1 => ?_⟩
  have k1 : Kp D H H1 := Kp.fr fr1
  have a1 := o.mono k1 (Nat.le_refl _)
  have hD1 := dk_some d1
  have odd : ∀ (X : L2.St → Hp → Prop) (H1' : Hp), Same H1 H1' → t_l_bent_odd K n { nx := X, rt := Q } [some (.ref D), some x, some (.int (((n + 1 : Nat) : Int) - 1)), some (.int road), none] H1' := fun X H1' sm =>
    ⟨_, rfl, c, D, ns, t + 1, rfl, d1.same sm, by omega, fun y H2 k2 d2 oy => k y H2 ((k1.trans (Kp.of_same sm)).trans k2) (d2.le (by omega)) (oy.mono (Kp.refl _ _) (by omega))⟩
  have txt : ∀ (X : L2.St → Hp → Prop) (H1' : Hp), Same H1 H1' → t_l_bent_txt K n { nx := X, rt := Q } [some (.ref D), some x, some (.int (((n + 1 : Nat) : Int) - 1)), some (.int road), none] H1' := by
    intro X H1' sm
    rcases (a1.same sm).strC K with ⟨z, rfl, tz⟩ | ⟨⟨ty, t1, t2⟩, hn⟩
    · have l1 := tz.1
      refine ⟨_, rfl, isi (.base (.str z)) k_ss ⟨_, rfl, iteT ⟨_, rfl, _, _, rfl, rfl, _, rfl, ite2 (fun e => ?_) (fun e => odd X H1' sm)⟩⟩⟩
      have zl : z.length ≤ 100 := by
        show z.cps.size ≤ 100
        omega
      refine ⟨_, rfl, _, rfl, z, rfl, Nat.le_trans zl (by decide), ?_⟩
      refine ⟨_, rfl, c, D, ns, t + 1, 26, rfl, d1.same sm, by omega, by decide, by decide, fun v H2 v0 v1 d2 fr2 => ?_⟩
      obtain ⟨m, rfl⟩ := Int.eq_ofNat_of_zero_le v0
      have hm : m < ("abcdefghijklmnopqrstuvwxyz" : Str).cps.toList.length := by rw [letters_len]; omega
      have c1 := cutS_len z none (some 1)
      have c2 := cutS_len z (some 1) none
      refine ixS (by decide +kernel) (atI_nat (List.getElem?_eq_getElem hm)) ⟨_, _, rfl, rfl, ?_, ?_⟩
      · exact Nat.le_trans (show _ + 1 ≤ 1000 by omega) (by decide)
      refine ⟨_, rfl, _, rfl, z, rfl, Nat.le_trans zl (by decide), _, _, rfl, rfl, ?_, ?_⟩
      · rw [str_app_len]
        exact Nat.le_trans (show _ + 1 + _ ≤ 1000 by omega) (by decide)
      exact k _ _ ((k1.trans (Kp.of_same sm)).trans (Kp.fr fr2)) (d2.le (by omega)) (.str (txt_more tz (letters _ (List.getElem_mem hm))))
    · exact ⟨_, rfl, isi t1 t2 ⟨_, rfl, iteF (odd X H1' sm)⟩⟩
  have fst : ∀ X : L2.St → Hp → Prop, t_l_bent_fst K n { nx := X, rt := Q } [some (.ref D), some x, some (.int (((n + 1 : Nat) : Int) - 1)), some (.int road), none] H1 := by
    intro X
    refine ⟨_, rfl, x, D, B, rfl, a1, Yn.x ⟨fun q H1' sm => ?_, fun q H1' sm => ⟨_, rfl, iteF (txt X H1' sm)⟩⟩⟩
    obtain ⟨i, rfl⟩ := q
    have d1' := d1.same sm
    refine ⟨_, rfl, iteT ⟨_, rfl, _, _, rfl, rfl, _, rfl, ite2 (fun e => ?_) (fun e => txt X H1' sm)⟩⟩
    refine ⟨_, rfl, _, rfl, _, rfl, _, rfl, _, rfl, _, _, rfl, rfl, (by show (6 : Nat) ≤ sizeLine; decide), fun L nL => ?_⟩
    have nLD := d1'.neD nL
    refine ⟨_, rfl, c, D, ns, t + 1, 6, rfl, d1'.upd (d1'.neC nL) nLD, by omega, by decide, by decide, fun v H2 v0 v1 d2 fr2 => ?_⟩
    obtain ⟨m, hm⟩ := pick6 (a := -1) (b := 1) (c := 2) (d := -2) (e := -i - 1) (f := 40) v0 v1
    refine ixL (by rw [fr2 _ nLD]; exact updS) hm ⟨_, _, rfl, rfl, ?_⟩
    exact k _ _ ((k1.trans (Kp.of_same sm)).trans ((Kp.new nL).trans (Kp.fr fr2))) (d2.le (by omega)) (.int _)
  rcases a1.tupC K with ⟨p, xs, rfl, np, hp, hz, hall⟩ | ⟨⟨ty, t1, t2⟩, hn⟩
  · -- a tuple zs made of these and others
    have fin : ∀ (q : Addr) (zs : List V) (H' : Hp) (t' : Nat), Kp D H1 H' → q ≠ D → H' q = some (.tup zs) → zs.length ≤ B + 1 → (∀ y ∈ zs, y ∈ xs ∨ Ad D (B + 1) H' y) → Dk c D ns t' H' → t' ≤ t + 3 * (n + 1) → Q (.ref q) H' := by
      intro q zs H' t' kk nq hq hz' hy dd ht'
      refine k _ _ (k1.trans kk) (dd.le ht') (.tup nq hq hz' fun y my => ?_)
      rcases hy y my with h | h
      · exact (hall y h).mono kk (by omega)
      · exact h
    have body : 0 < n → t_l_bent_one K n { nx := fun _ H' => Q .non H', rt := Q } [some (.ref D), some (.ref p), some (.int (((n + 1 : Nat) : Int) - 1)), some (.int road), none] H1 := by
      intro hn
      -- list(thing)
      refine ⟨_, rfl, rfl, _, rfl, ite2 (fun e => ?_) (fun e => ?_)⟩
      · refine ⟨_, rfl, p, xs, rfl, .inr (sqT hp), fun l nl => ?_⟩
        have nlD := d1.neD nl
        exact k _ _ (k1.trans (Kp.new nl)) ((d1.upd (d1.neC nl) nlD).le (by omega)) (.lst nlD updS (by omega) fun y hy => (hall y hy).mono (Kp.new nl) (by omega))
      -- an empty one
      refine ⟨_, rfl, lenT hp ⟨rfl, _, rfl, ite2 (fun e => ?_) (fun e => ?_)⟩⟩
      · refine ⟨_, rfl, c, D, ns, t + 1, rfl, d1, by omega, fun y H2 k2 d2 oy => ⟨by show (1 : Nat) ≤ sizeLine; decide, fun q nq => ?_⟩⟩
        have nqD := d2.neD nq
        refine fin q [y] _ (t + 1 + 1) (k2.trans (Kp.new nq)) nqD updS (by show (1 : Nat) ≤ B + 1; omega) (fun z hz => .inr ?_) (d2.upd (d2.neC nq) nqD) (by omega)
        rw [List.mem_singleton.mp hz]
        exact oy.mono (Kp.new nq) (by omega)
      have hpos : 0 < xs.length := by
        cases xs with
        | nil => exact absurd rfl e
        | cons _ _ => exact Nat.succ_pos _
      -- a place
      refine ⟨_, rfl, _, rfl, lenT hp ⟨c, D, ns, t + 1, _, rfl, d1, by omega, by omega, small100 (by omega), fun v H2 v0 v1 d2 fr2 => ?_⟩⟩
      obtain ⟨m, rfl⟩ := Int.eq_ofNat_of_zero_le v0
      have hm : m < xs.length := by omega
      have k2 : Kp D H1 H2 := Kp.fr fr2
      have hp2 : H2 p = some (.tup xs) := k2 _ _ hp np
      have hD2 := dk_some d2
      have s1 : ∀ d : Nat, HT.sIx xs.length d (some ((m : Int) + 1)) = min (m + 1) xs.length := fun d => HT.sIx_nat xs.length d (m + 1)
      have s2 : ∀ d : Nat, HT.sIx xs.length d (some ((m : Int) + 2)) = min (m + 2) xs.length := fun d => HT.sIx_nat xs.length d (m + 2)
      have s0 : ∀ d : Nat, HT.sIx xs.length d (some (m : Int)) = min m xs.length := fun d => HT.sIx_nat xs.length d m
      have sn : ∀ d : Nat, HT.sIx xs.length d none = d := fun d => HT.sIx_none xs.length d
      have dkp : ∀ {H' : Hp}, Same H2 H' → Dk c D ns (t + 1 + 1) H' := fun s => d2.same s
      -- one left out
      refine ⟨_, rfl, rfl, _, rfl, ite2 (fun e => ?_) (fun e => ?_)⟩
      · refine ⟨_, rfl, _, rfl, _, rfl, sl_step np hD2 hp2 fun q zs H3 w3 nq hq hlq mq => ?_⟩
        refine ⟨_, rfl, _, rfl, _, _, rfl, rfl, _, rfl, sl_stepN np (ne_same w3 hD2) (w3 _ _ hp2) fun q2 zs2 H4 w4 nq2 hq2 hlq2 mq2 => ?_⟩
        rw [s0, sn] at hlq
        rw [s1, sn] at hlq2
        refine cat_step nq nq2 (ne_same (w3.trans w4) hD2) (w4 _ _ hq) hq2 (by omega) fun r H5 w5 nr hr => ?_
        refine fin r _ H5 _ (k2.trans (Kp.of_same ((w3.trans w4).trans w5))) nr hr ?_ (fun y hy => .inl ?_) (dkp ((w3.trans w4).trans w5)) (by omega)
        · rw [List.length_append]
          omega
        · rcases List.mem_append.mp hy with hy | hy
          · exact mq y hy
          · exact mq2 y hy
      -- one twice
      refine ⟨_, rfl, rfl, _, rfl, ite2 (fun e => ?_) (fun e => ?_)⟩
      · refine ⟨_, rfl, _, rfl, _, _, rfl, rfl, _, rfl, sl_step np hD2 hp2 fun q zs H3 w3 nq hq hlq mq => ?_⟩
        refine ⟨_, rfl, _, rfl, _, rfl, sl_stepN np (ne_same w3 hD2) (w3 _ _ hp2) fun q2 zs2 H4 w4 nq2 hq2 hlq2 mq2 => ?_⟩
        rw [s1, sn] at hlq
        rw [s0, sn] at hlq2
        refine cat_step nq nq2 (ne_same (w3.trans w4) hD2) (w4 _ _ hq) hq2 (by omega) fun r H5 w5 nr hr => ?_
        refine fin r _ H5 _ (k2.trans (Kp.of_same ((w3.trans w4).trans w5))) nr hr ?_ (fun y hy => .inl ?_) (dkp ((w3.trans w4).trans w5)) (by omega)
        · rw [List.length_append]
          omega
        · rcases List.mem_append.mp hy with hy | hy
          · exact mq y hy
          · exact mq2 y hy
      have hat : atI xs (m : Int) = some xs[m] := atI_nat (List.getElem?_eq_getElem hm)
      -- two turned about
      refine ⟨_, rfl, rfl, _, rfl, ite2 (fun e => ?_) (fun e => ?_)⟩
      · refine ⟨_, rfl, _, rfl, _, rfl, sl_step np hD2 hp2 fun q zs H3 w3 nq hq hlq mq => ?_⟩
        refine ⟨_, rfl, _, rfl, _, _, rfl, rfl, _, rfl, _, rfl, _, _, rfl, rfl, _, rfl, sl_step np (ne_same w3 hD2) (w3 _ _ hp2) fun q2 zs2 H4 w4 nq2 hq2 hlq2 mq2 => ?_⟩
        rw [s0, sn] at hlq
        rw [s1, s2] at hlq2
        refine cat_step nq nq2 (ne_same (w3.trans w4) hD2) (w4 _ _ hq) hq2 (by omega) fun r H5 w5 nr hr => ?_
        have w25 := (w3.trans w4).trans w5
        refine ⟨_, rfl, _, rfl, ixT (w25 _ _ hp2) hat ⟨by show (1 : Nat) ≤ sizeLine; decide, fun u nu => ?_⟩⟩
        have w6 := samNw (o := .tup [xs[m]]) nu
        have nuD := ne_new (ne_same w25 hD2) nu
        have w26 := w25.trans w6
        refine cat_step nr nuD (ne_same w26 hD2) (w6 _ _ hr) updS (by rw [List.length_append]; show _ + 1 ≤ _; omega) fun v H7 w7 nv hv => ?_
        have w27 := w26.trans w7
        refine ⟨_, rfl, _, rfl, _, _, rfl, rfl, _, rfl, sl_stepN np (ne_same w27 hD2) (w27 _ _ hp2) fun q3 zs3 H8 w8 nq3 hq3 hlq3 mq3 => ?_⟩
        rw [s2, sn] at hlq3
        have w28 := w27.trans w8
        refine cat_step nv nq3 (ne_same w28 hD2) (w8 _ _ hv) hq3 (by rw [List.length_append, List.length_append]; show _ + 1 + _ ≤ _; omega) fun g H9 w9 ng hg => ?_
        refine fin g _ H9 _ (k2.trans (Kp.of_same (w28.trans w9))) ng hg ?_ (fun y hy => .inl ?_) (dkp (w28.trans w9)) (by omega)
        · rw [List.length_append, List.length_append, List.length_append]
          show _ + 1 + _ ≤ _
          omega
        · rcases List.mem_append.mp hy with hy | hy
          · rcases List.mem_append.mp hy with hy | hy
            · rcases List.mem_append.mp hy with hy | hy
              · exact mq y hy
              · exact mq2 y hy
            · rw [List.mem_singleton.mp hy]
              exact List.getElem_mem hm
          · exact mq3 y hy
      -- one bent
      refine ⟨_, rfl, _, rfl, _, rfl, sl_step np hD2 hp2 fun q zs H3 w3 nq hq hlq mq => ?_⟩
      rw [s0, sn] at hlq
      have k3 : Kp D H1 H3 := k2.trans (Kp.of_same w3)
      refine ⟨_, rfl, _, rfl, _, rfl, ixT (w3 _ _ hp2) hat ⟨_, rfl, _, _, rfl, rfl, c, D, ns, t + 1 + 1, xs[m], B, ?_, hn, dkp w3, by omega, (hall _ (List.getElem_mem hm)).mono k3 (Nat.le_refl _), hB0, hB1, fun y H4 k4 d4 oy => ?_⟩⟩
      · show [V.ref D, xs[m], V.int (((n + 1 : Nat) : Int) - 1 - 1)] = _
        rw [show (((n + 1 : Nat) : Int) - 1 - 1) = (n : Int) - 1 by omega]
      have hD4 := dk_some d4
      refine ⟨by show (1 : Nat) ≤ sizeLine; decide, fun u nu => ?_⟩
      have nuD := d4.neD nu
      have w5 := samNw (o := .tup [y]) nu
      refine cat_step nq nuD (ne_same w5 hD4) (w5 _ _ (k4 _ _ hq nq)) updS (by show _ + 1 ≤ _; omega) fun v H6 w6 nv hv => ?_
      have w46 := w5.trans w6
      refine ⟨_, rfl, _, rfl, _, _, rfl, rfl, _, rfl, sl_stepN np (ne_same w46 hD4) (w46 _ _ (k4 _ _ (w3 _ _ hp2) np)) fun q3 zs3 H7 w7 nq3 hq3 hlq3 mq3 => ?_⟩
      rw [s1, sn] at hlq3
      have w47 := w46.trans w7
      refine cat_step nv nq3 (ne_same w47 hD4) (w7 _ _ hv) hq3 (by rw [List.length_append]; show _ + 1 + _ ≤ _; omega) fun g H8 w8 ng hg => ?_
      have w48 := w47.trans w8
      refine fin g _ H8 _ (k3.trans (k4.trans (Kp.of_same w48))) ng hg ?_ (fun y' hy => ?_) (d4.same w48) (by omega)
      · rw [List.length_append, List.length_append]
        show _ + 1 + _ ≤ _
        omega
      · rcases List.mem_append.mp hy with hy | hy
        · rcases List.mem_append.mp hy with hy | hy
          · exact .inl (mq y' hy)
          · rw [List.mem_singleton.mp hy]
            exact .inr (oy.mono (Kp.of_same w48) (Nat.le_refl _))
        · exact .inl (mq3 y' hy)
    refine ⟨_, rfl, rfl, _, rfl, ite2 (fun e => fst _) (fun e => ?_)⟩
    refine ⟨_, rfl, rfl, _, rfl, ite2 (fun e2 => fst _) (fun e2 => ?_)⟩
    refine ⟨_, rfl, isi (.base (.tup hp)) k_tt ⟨_, rfl, ?_⟩⟩
    refine iteF (body ?_)
    cases n with
    | zero => exact absurd rfl e
    | succ n => exact Nat.succ_pos _
  · refine ⟨_, rfl, rfl, _, rfl, ite2 (fun e => fst _) (fun e => ?_)⟩
    refine ⟨_, rfl, rfl, _, rfl, ite2 (fun e => fst _) (fun e => ?_)⟩
    refine ⟨_, rfl, isi t1 t2 ⟨_, rfl, iteT (fst _)⟩⟩
theorem pure_l_spoiled {K : PySem.W.Frag} {vs : List V} {H : Hp} {Q : VK} {E : XK} (h : sp_l_spoiled K vs H Q E) : t_l_spoiled K { nx := fun _ H' => Q .non H', rt := Q } (start N_l_spoiled vs) H := by
  obtain ⟨c, D, ns, t, x, i, rfl, dk, ht, o, i0, i1, k⟩ := h
  refine ⟨_, rfl, _, rfl, by omega, by omega, ?_⟩
  refine for_range (lo := 0) (n := i.toNat) (fun j σ H' => ∃ x z3, σ = [some (.ref D), some x, some (.int i), z3] ∧ Kp D H H' ∧ Dk c D ns (t + 15 * j) H' ∧ Ad D (41 + j) H' x) ⟨x, none, rfl, Kp.refl _ _, dk, o⟩ ?_ ?_
  · rintro j σ H1 hj ⟨x, z3, rfl, k1, d1, o1⟩
    refine ⟨_, rfl, _, rfl, c, D, ns, _, x, 41 + j, rfl, by decide, d1, by omega, o1, by omega, by omega, fun x' H2 k2 d2 o2 => ⟨x', _, rfl, k1.trans k2, d2.le (by omega), o2⟩⟩
  · rintro σ H1 ⟨x, z3, rfl, k1, d1, o1⟩
    exact ⟨_, rfl, k x H1 k1 (d1.le (by omega)) (o1.mono (Kp.refl _ _) (by omega))⟩
end Fw

set_option Elab.async false
set_option linter.all false
set_option maxRecDepth 100000
set_option maxHeartbeats 4000000
namespace Fw
open PySem L2 RZ RT
def sp_l_is_lineA (_ : PySem.W.Frag) : Sp := fun vs H Q _ => ∃ (x : V) (D : Addr) (B : Nat), vs = [x] ∧ Ad D B H x ∧ B ≤ 1000 ∧ Yn (Row x) H Q
def sp_l_sizeA (_ : PySem.W.Frag) : Sp := fun vs H Q _ => ∃ (x : V) (D : Addr) (B : Nat), vs = [x] ∧ Ad D B H x ∧ B ≤ 1000 ∧ (∀ a p, x = .ref a → PcAt H a p → p.ok → ∀ H', Same H H' → Q (.int (p.n : Int)) H') ∧ (¬ Pie H x → ∀ H', Same H H' → Q (.int 0) H')
def sp_l_is_scriptA (_ : PySem.W.Frag) : Sp := fun vs H Q _ => ∃ (x : V) (D : Addr) (B : Nat), vs = [x] ∧ Ad D B H x ∧ B ≤ 1000 ∧ Yn (Scr H x) H Q
def sp_l_fitsA (_ : PySem.W.Frag) : Sp := fun vs H Q _ => ∃ (M : Addr) (bs : List Str) (x : V) (D : Addr) (B : Nat), vs = [.ref M, x] ∧ RwAt H M bs ∧ Ad D B H x ∧ B ≤ 1000 ∧ Yn (Fit H x bs.length) H Q
section
variable {K : PySem.W.Frag} {vs : List V} {H : Hp} {Q : VK} {E : XK}
theorem len_l_is_lineA (h : sp_l_is_lineA K vs H Q E) : vs.length = 1 := by obtain ⟨_, _, _, rfl, _⟩ := h; rfl
theorem len_l_sizeA (h : sp_l_sizeA K vs H Q E) : vs.length = 1 := by obtain ⟨_, _, _, rfl, _⟩ := h; rfl
theorem len_l_is_scriptA (h : sp_l_is_scriptA K vs H Q E) : vs.length = 1 := by obtain ⟨_, _, _, rfl, _⟩ := h; rfl
theorem len_l_fitsA (h : sp_l_fitsA K vs H Q E) : vs.length = 2 := by obtain ⟨_, _, _, _, _, rfl, _⟩ := h; rfl
end
abbrev N_l_is_lineA : List Str := ["_law_thing", "_law_sign"]
def t_l_is_lineA (K : PySem.W.Frag) : TS := (tSeq (tIfS (tOr (tNot (tB (tCB (rIsi K) (tCons (tVar 0) (tCons (tC (.ty "str")) tNil))))) (tTest (tOp rGtI (tCB (fLen K) (tCons (tVar 0) tNil)) (tC (.int 40))))) (tRet (tC (.bl false))) tNext)
    (tSeq (tFor (iStr (tVar 0)) (gName 1) (tIfS (tOr (tTest (tOp rLtS (tVar 1) (tC (.str " ")))) (tTest (tOp rGtS (tVar 1) (tC (.str "~"))))) (tRet (tC (.bl false))) tNext))
    (tRet (tC (.bl true)))))
abbrev N_l_sizeA : List Str := ["_law_piece", "_law_line"]
def t_l_sizeA_rows (K : PySem.W.Frag) : TS := (tSeq (tFor (iTup K (tOp (rIx K) (tVar 0) (tC (.int 1)))) (gName 1) (tIfS (tNot (tB (tCall (sp_l_is_lineA K) [] E0 (tCons (tVar 1) tNil)))) (tRet (tC (.int 0))) tNext))
    (tRet (tCB (fLen K) (tCons (tOp (rIx K) (tVar 0) (tC (.int 1))) tNil))))
def t_l_sizeA_put (K : PySem.W.Frag) : TS := (tSeq (tIfS (tOr (tTest (tOp rNe (tOp (rIx K) (tVar 0) (tC (.int 0))) (tC (.str "put")))) (tOr (tTest (tOp rNe (tCB (fLen K) (tCons (tVar 0) tNil)) (tC (.int 2)))) (tNot (tB (tCB (rIsi K) (tCons (tOp (rIx K) (tVar 0) (tC (.int 1))) (tCons (tC (.ty "tuple")) tNil))))))) (tRet (tC (.int 0))) tNext)
    (t_l_sizeA_rows K))
def t_l_sizeA_take (K : PySem.W.Frag) : TS := (tSeq (tIfS (tAnd (tTest (tOp rEq (tOp (rIx K) (tVar 0) (tC (.int 0))) (tC (.str "take")))) (tAnd (tTest (tOp rEq (tCB (fLen K) (tCons (tVar 0) tNil)) (tC (.int 3)))) (tAnd (tB (tCall (sp_l_intA K) [] E0 (tCons (tOp (rIx K) (tVar 0) (tC (.int 1))) tNil))) (tB (tCall (sp_l_intA K) [] E0 (tCons (tOp (rIx K) (tVar 0) (tC (.int 2))) tNil)))))) (tSeq (tIfS (tAnd (tTest (tOp rGeI (tOp (rIx K) (tVar 0) (tC (.int 1))) (tC (.int 0)))) (tTest (tOp rGeI (tOp (rIx K) (tVar 0) (tC (.int 2))) (tC (.int 1))))) (tRet (tOp (rIx K) (tVar 0) (tC (.int 2)))) tNext)
    (tRet (tC (.int 0)))) tNext)
    (t_l_sizeA_put K))
def t_l_sizeA (K : PySem.W.Frag) : TS := (tSeq (tIfS (tOr (tNot (tB (tCB (rIsi K) (tCons (tVar 0) (tCons (tC (.ty "tuple")) tNil))))) (tOr (tTest (tOp rLtI (tCB (fLen K) (tCons (tVar 0) tNil)) (tC (.int 2)))) (tNot (tB (tCB (rIsi K) (tCons (tOp (rIx K) (tVar 0) (tC (.int 0))) (tCons (tC (.ty "str")) tNil))))))) (tRet (tC (.int 0))) tNext)
    (t_l_sizeA_take K))
abbrev N_l_is_scriptA : List Str := ["_law_thing", "_law_total", "_law_piece"]
def t_l_is_scriptA (K : PySem.W.Frag) : TS := (tSeq (tIfS (tNot (tB (tCB (rIsi K) (tCons (tVar 0) (tCons (tC (.ty "tuple")) tNil))))) (tRet (tC (.bl false))) tNext)
    (tSeq (tAsg (tC (.int 0)) (gName 1))
    (tSeq (tFor (iTup K (tVar 0)) (gName 2) (tSeq (tIfS (tTest (tOp rEq (tCall (sp_l_sizeA K) [] E0 (tCons (tVar 2) tNil)) (tC (.int 0)))) (tRet (tC (.bl false))) tNext)
    (tAsg (tOp rAddI (tVar 1) (tCall (sp_l_sizeA K) [] E0 (tCons (tVar 2) tNil))) (gName 1))))
    (tRet (tOp rLeI (tVar 1) (tC (.int 40)))))))
abbrev N_l_fitsA : List Str := ["_law_base", "_law_thing", "_law_piece"]
def t_l_fitsA (K : PySem.W.Frag) : TS := (tSeq (tIfS (tNot (tB (tCall (sp_l_is_scriptA K) [] E0 (tCons (tVar 1) tNil)))) (tRet (tC (.bl false))) tNext)
    (tSeq (tFor (iTup K (tVar 1)) (gName 2) (tIfS (tAnd (tTest (tOp rEq (tOp (rIx K) (tVar 2) (tC (.int 0))) (tC (.str "take")))) (tTest (tOp rGtI (tOp rAddI (tOp (rIx K) (tVar 2) (tC (.int 1))) (tOp (rIx K) (tVar 2) (tC (.int 2)))) (tCB (fLen K) (tCons (tVar 0) tNil))))) (tRet (tC (.bl false))) tNext))
    (tRet (tC (.bl true)))))
theorem lt_blank (c : Nat) : decide ((⟨#[c]⟩ : Str).cps.toList < (" " : Str).cps.toList) = decide (c < 32) := by
  have h := le_blank c
  by_cases q : 32 ≤ c
  · rw [decide_eq_true q] at h
    rw [decide_eq_false (show ¬ c < 32 by omega)]
    cases e : decide ((⟨#[c]⟩ : Str).cps.toList < (" " : Str).cps.toList) with
    | false => rfl
    | true => rw [e] at h; cases h
  · rw [decide_eq_false q] at h
    rw [decide_eq_true (show c < 32 by omega)]
    cases e : decide ((⟨#[c]⟩ : Str).cps.toList < (" " : Str).cps.toList) with
    | true => rfl
    | false => rw [e] at h; cases h
theorem gt_til (c : Nat) : decide (("~" : Str).cps.toList < (⟨#[c]⟩ : Str).cps.toList) = decide (126 < c) := by
  have h := le_til c
  by_cases q : c ≤ 126
  · rw [decide_eq_true q] at h
    rw [decide_eq_false (show ¬ 126 < c by omega)]
    cases e : decide (("~" : Str).cps.toList < (⟨#[c]⟩ : Str).cps.toList) with
    | false => rfl
    | true => rw [e] at h; cases h
  · rw [decide_eq_false q] at h
    rw [decide_eq_true (show 126 < c by omega)]
    cases e : decide (("~" : Str).cps.toList < (⟨#[c]⟩ : Str).cps.toList) with
    | true => rfl
    | false => rw [e] at h; cases h
section
variable {K : PySem.W.Frag} {vs : List V} {H : Hp} {Q : VK} {E : XK}
theorem pure_l_is_lineA (h : sp_l_is_lineA K vs H Q E) : t_l_is_lineA K { nx := fun _ H' => Q .non H', rt := Q } (start N_l_is_lineA vs) H := by
  obtain ⟨x, D, B, rfl, a, hB, y⟩ := h
  rcases a.strC K with ⟨z, rfl, tz⟩ | ⟨⟨ty, t1, t2⟩, hn⟩
  · have l1 := tz.1
    refine ⟨_, rfl, isi (.base (.str z)) k_ss ⟨_, rfl, iteF ⟨_, rfl, lenS (show z.cps.size ≤ 1000 by omega) ⟨_, _, rfl, rfl, _, rfl, ?_⟩⟩⟩⟩
    have nr : (z.cps.size ≤ 40 → ¬ ∀ c ∈ z.cps.toList, OkC c) → ¬ Row (.str z) := by
      rintro k ⟨w, e, o⟩
      injection e with e
      subst e
      exact k o.1 o.2
    by_cases l40 : (40 : Int) < ((z.length : Nat) : Int)
    · rw [decide_eq_true l40]
      refine iteT (y.no (nr fun k => ?_))
      have l40 : (40 : Int) < ((z.cps.size : Nat) : Int) := l40
      omega
    · rw [decide_eq_false l40]
      have l40 : ¬ (40 : Int) < ((z.cps.size : Nat) : Int) := l40
      refine iteF ⟨_, rfl, z, rfl, for_it walk_str (fun i σ H' => (H' = H ∧ ∃ w, σ = [some (.str z), w]) ∧ ∀ c ∈ z.cps.toList.take i, OkC c) ⟨⟨rfl, none, rfl⟩, fun c hc => by rw [List.take_zero] at hc; cases hc⟩ (fun _ _ _ _ _ => True.intro) ?_ ?_⟩
      · rintro i x σ H' H'' hi ⟨⟨rfl, w, rfl⟩, ok⟩ ⟨rfl, c, hc, rfl⟩
        have hc2 : z.cps.toList[i]? = some c := by rw [Array.getElem?_toList]; exact hc
        have hm : c ∈ z.cps.toList := List.mem_of_getElem? hc2
        refine ⟨_, rfl, _, _, rfl, rfl, _, rfl, ?_⟩
        rw [lt_blank]
        by_cases h1 : c < 32
        · rw [decide_eq_true h1]
          exact iteT (iteT (y.no (nr fun _ k => by have := (k c hm).1; omega)))
        · rw [decide_eq_false h1]
          refine iteF ⟨_, rfl, _, _, rfl, rfl, _, rfl, ?_⟩
          rw [gt_til]
          by_cases h2 : 126 < c
          · rw [decide_eq_true h2]
            exact iteT (y.no (nr fun _ k => by have := (k c hm).2.1; omega))
          · rw [decide_eq_false h2]
            refine iteF ⟨⟨rfl, _, rfl⟩, fun d hd => ?_⟩
            rw [List.take_add_one, hc2] at hd
            rcases List.mem_append.mp hd with hd | hd
            · exact ok d hd
            · rw [List.mem_singleton.mp hd]
              exact ⟨by omega, by omega, tz.2 c hm⟩
      · rintro σ H' ⟨⟨rfl, w, rfl⟩, ok⟩
        rw [List.take_of_length_le (by rw [Array.length_toList]; exact Nat.le_refl _)] at ok
        exact y.yes ⟨z, rfl, by omega, ok⟩
  · exact ⟨_, rfl, isi t1 t2 ⟨_, rfl, iteT (iteT (y.no (by rintro ⟨z, e, _⟩; exact hn z e)))⟩⟩
/-- the put of _law_size -/
theorem size_put {a : Addr} {z0 : Str} {r : List V} {D : Addr} {B : Nat} {H1 : Hp} (s1 : Same H H1) (ha : H a = some (.tup (.str z0 :: r))) (hB : B ≤ 1000) (hx : ∀ y ∈ V.str z0 :: r, Ad D B H y)
    (hno : ∀ b m, z0 = "take" → r = [.int b, .int m] → False) (ky : ∀ p, PcAt H a p → p.ok → ∀ H', Same H H' → Q (.int (p.n : Int)) H') (kn : ¬ Pie H (.ref a) → ∀ H', Same H H' → Q (.int 0) H') :
    t_l_sizeA_put K { nx := fun _ H' => Q .non H', rt := Q } [some (.ref a), none] H1 := by
  have ha1 := s1 _ _ ha
  have noP : (∀ q rs, z0 = "put" → r = [.ref q] → ¬ (RwAt H q rs ∧ rs ≠ [] ∧ ∀ z ∈ rs, OkS z)) → ¬ Pie H (.ref a) := by
    rintro k ⟨b, p, e, hp, ok⟩
    injection e with e
    subst e
    cases p with
    | take b m =>
      have e := tup_inj ha hp
      injection e with e1 e2
      injection e1 with e1
      exact hno _ _ e1 e2
    | put rs =>
      obtain ⟨q, h3, h4⟩ := hp
      have e := tup_inj ha h3
      injection e with e1 e2
      injection e1 with e1
      exact k q rs e1 e2 ⟨h4, ok.1, ok.2⟩
  refine ⟨_, rfl, ixT ha1 at0 ⟨rfl, _, rfl, ?_⟩⟩
  by_cases e0 : z0 = "put"
  · subst e0
    rw [decide_eq_true rfl]
    refine iteF ⟨_, rfl, lenT ha1 ⟨rfl, _, rfl, ?_⟩⟩
    by_cases l2 : r.length = 1
    · match r, l2 with
      | [d], _ =>
        refine iteF ⟨_, rfl, ixT ha1 rfl ?_⟩
        have ad := hx d (by simp)
        rcases ad.tupC K with ⟨q, xs, rfl, nq, hq, hz, hall⟩ | ⟨⟨ty, t1, t2⟩, hn⟩
        · have hq1 := s1 _ _ hq
          refine isi (.base (.tup hq1)) k_tt ⟨_, rfl, iteF ?_⟩
          show t_l_sizeA_rows K { nx := fun _ H' => Q .non H', rt := Q } [some (.ref a), none] H1
          refine ⟨_, rfl, ixT ha1 rfl ⟨q, rfl, ⟨_, sqT hq1⟩, for_tup (K := K) (a := q) (xs := xs) (fun i σ H' => (Same H1 H' ∧ ∃ w, σ = [some (.ref a), w]) ∧ ∀ x ∈ xs.take i, Row x) ⟨⟨Same.refl _, none, rfl⟩, fun c hc => by rw [List.take_zero] at hc; cases hc⟩ (fun _ _ _ _ p => sqT (p.1.1 _ _ hq1)) ?_ ?_⟩⟩
          · rintro i x σ H' hxi ⟨⟨s2, w, rfl⟩, ok⟩
            have s12 := s1.trans s2
            have mx : x ∈ xs := List.mem_of_getElem? hxi
            refine ⟨_, rfl, x, D, B, rfl, (hall x mx).same s12, hB, fun p H3 s3 => ⟨_, rfl, iteF ⟨⟨s2.trans s3, _, rfl⟩, fun d hd => ?_⟩⟩, fun p H3 s3 => ⟨_, rfl, iteT (kn (noP ?_) _ (s12.trans s3))⟩⟩
            · rw [List.take_add_one, hxi] at hd
              rcases List.mem_append.mp hd with hd | hd
              · exact ok d hd
              · rw [List.mem_singleton.mp hd]
                exact p
            · rintro q2 rs _ e2 ⟨hr, _, okr⟩
              injection e2 with e2
              injection e2 with e2
              subst e2
              rw [tup_inj hq hr] at mx
              obtain ⟨z, hz2, rfl⟩ := List.mem_map.mp mx
              exact p ⟨z, rfl, okr z hz2⟩
          · rintro σ H' ⟨⟨s2, w, rfl⟩, ok⟩
            rw [List.take_of_length_le (Nat.le_refl _)] at ok
            obtain ⟨rs, rfl, okr⟩ := rows_of ok
            refine ⟨_, rfl, ixT (s2 _ _ ha1) rfl (lenT (s2 _ _ hq1) ?_)⟩
            rw [List.length_map]
            by_cases h0 : rs = []
            · subst h0
              refine kn (noP ?_) _ (s1.trans s2)
              rintro q2 rs _ e2 ⟨hr, hne, _⟩
              injection e2 with e2
              injection e2 with e2
              subst e2
              have := str_inj (tup_inj hq hr)
              exact hne this.symm
            · exact ky (.put rs) ⟨q, ha, hq⟩ ⟨h0, okr⟩ _ (s1.trans s2)
        · obtain ⟨ty', t1', t2'⟩ : ∃ ty, TyX K H1 d (.type ty) ∧ kitB ty "tuple" = some false := by
            rcases (ad.same s1).tupC K with ⟨q, xs, rfl, nq, hq, hz, hall⟩ | ⟨h, _⟩
            · exact absurd (ad.back s1 hq).1 (hn _ _ rfl)
            · exact h
          refine isi t1' t2' ⟨_, rfl, iteT (kn (noP ?_) _ s1)⟩
          rintro q2 rs _ e2 ⟨hr, _, _⟩
          injection e2 with e2
          exact hn _ _ e2 hr
    · rw [decide_eq_false (show ¬ V.int (((V.str "put" :: r).length : Nat) : Int) = V.int 2 by intro e; injection e with e; rw [List.length_cons] at e; omega)]
      refine iteT (iteT (kn (noP ?_) _ s1))
      rintro q2 rs _ e2
      rw [e2] at l2
      exact absurd rfl l2
  · rw [decide_eq_false (show ¬ V.str z0 = V.str "put" by intro e; injection e with e; exact e0 e)]
    refine iteT (iteT (kn (noP ?_) _ s1))
    rintro q2 rs e2
    exact absurd e2 e0
end
end Fw

set_option Elab.async false
set_option linter.all false
set_option maxRecDepth 100000
set_option maxHeartbeats 4000000
namespace Fw
open PySem L2 RZ RT
section
variable {K : PySem.W.Frag} {vs : List V} {H : Hp} {Q : VK} {E : XK}
theorem pure_l_sizeA (h : sp_l_sizeA K vs H Q E) : t_l_sizeA K { nx := fun _ H' => Q .non H', rt := Q } (start N_l_sizeA vs) H := by
  obtain ⟨x, D, B, rfl, a, hB, ky, kn⟩ := h
  rcases a.tupC K with ⟨p, xs, rfl, n, hp, hz, hall⟩ | ⟨⟨ty, t1, t2⟩, hn⟩
  · refine ⟨_, rfl, isi (.base (.tup hp)) k_tt ⟨_, rfl, iteF ⟨_, rfl, lenT hp ⟨_, _, rfl, rfl, _, rfl, ?_⟩⟩⟩⟩
    have noW : (∀ w r, xs = .str w :: r → 2 ≤ xs.length → False) → ¬ Pie H (.ref p) := by
      rintro k ⟨b, q, e, hq, ok⟩
      injection e with e
      subst e
      cases q with
      | take b m =>
        have e := tup_inj hp hq
        exact k _ _ e (by rw [e]; show (2 : Nat) ≤ 3; decide)
      | put rs =>
        obtain ⟨q, h3, h4⟩ := hq
        have e := tup_inj hp h3
        exact k _ _ e (by rw [e]; show (2 : Nat) ≤ 2; decide)
    by_cases l2 : ((xs.length : Nat) : Int) < 2
    · rw [decide_eq_true l2]
      exact iteT (iteT (kn (noW fun w r e h => by omega) _ (Same.refl _)))
    · rw [decide_eq_false l2]
      match xs with
      | [] => exact absurd (show ((([] : List V).length : Nat) : Int) < 2 by decide) l2
      | x0 :: r =>
        refine iteF ⟨_, rfl, ixT hp at0 ?_⟩
        rcases (hall x0 List.mem_cons_self).strC K with ⟨z0, rfl, tz⟩ | ⟨⟨ty, t1, t2⟩, hn⟩
        · refine isi (.base (.str z0)) k_ss ⟨_, rfl, iteF ?_⟩
          -- the take
          show t_l_sizeA_take K { nx := fun _ H' => Q .non H', rt := Q } [some (.ref p), none] H
          have put : ∀ H1, Same H H1 → (∀ b m, z0 = "take" → r = [.int b, .int m] → False) → t_l_sizeA_put K { nx := fun _ H' => Q .non H', rt := Q } [some (.ref p), none] H1 := fun H1 s1 hno =>
            size_put s1 hp hB hall hno (fun q hq ok => ky p q rfl hq ok) kn
          refine ⟨_, rfl, ixT hp at0 ⟨rfl, _, rfl, ?_⟩⟩
          by_cases e0 : z0 = "take"
          · subst e0
            rw [decide_eq_true rfl]
            refine iteT ⟨_, rfl, lenT hp ⟨rfl, _, rfl, ?_⟩⟩
            by_cases l3 : (V.str "take" :: r).length = 3
            · rw [decide_eq_true (show V.int (((V.str "take" :: r).length : Nat) : Int) = V.int 3 by rw [l3]; rfl)]
              match r, l3 with
              | [u, v], _ =>
                refine iteT ⟨_, rfl, ixT hp rfl ⟨u, D, B, rfl, hall u (by simp), Yn.x ⟨fun q H1 s1 => ?_, fun q H1 s1 => ?_⟩⟩⟩
                · obtain ⟨i, rfl⟩ := q
                  refine ⟨_, rfl, iteT ⟨_, rfl, ixT (s1 _ _ hp) rfl ⟨v, D, B, rfl, (hall v (by simp)).same s1, Yn.x ⟨fun q H2 s2 => ?_, fun q H2 s2 => ?_⟩⟩⟩⟩
                  · obtain ⟨j, rfl⟩ := q
                    have s12 := s1.trans s2
                    have noT : ¬ (0 ≤ i ∧ 1 ≤ j) → ¬ Pie H (.ref p) := by
                      rintro k ⟨b, q, e, hq, ok⟩
                      injection e with e
                      subst e
                      cases q with
                      | take b m =>
                        have e := tup_inj hp hq
                        injection e with _ e
                        injection e with e1 e
                        injection e with e2 _
                        injection e1 with e1
                        injection e2 with e2
                        have ok : 1 ≤ m := ok
                        exact k ⟨by omega, by omega⟩
                      | put rs =>
                        obtain ⟨q, h3, h4⟩ := hq
                        have e := tup_inj hp h3
                        injection e with e _
                        injection e with e
                        exact take_ne e
                    refine ⟨_, rfl, iteT ?_⟩
                    refine ⟨_, rfl, ixT (s12 _ _ hp) rfl ⟨_, _, rfl, rfl, _, rfl, ?_⟩⟩
                    by_cases i0 : 0 ≤ i
                    · rw [decide_eq_true i0]
                      refine iteT ⟨_, rfl, ixT (s12 _ _ hp) rfl ⟨_, _, rfl, rfl, _, rfl, ?_⟩⟩
                      by_cases j1 : 1 ≤ j
                      · rw [decide_eq_true j1]
                        obtain ⟨b, rfl⟩ := Int.eq_ofNat_of_zero_le i0
                        obtain ⟨m, rfl⟩ := Int.eq_ofNat_of_zero_le (show (0 : Int) ≤ j by omega)
                        exact iteT ⟨_, rfl, ixT (s12 _ _ hp) rfl (ky p (.take b m) rfl hp (show 1 ≤ m by omega) _ s12)⟩
                      · rw [decide_eq_false j1]
                        exact iteF (kn (noT fun k => j1 k.2) _ s12)
                    · rw [decide_eq_false i0]
                      exact iteF (iteF (kn (noT fun k => i0 k.1) _ s12))
                  · refine ⟨_, rfl, iteF (put H2 (s1.trans s2) fun b m _ e => ?_)⟩
                    injection e with _ e
                    injection e with e _
                    exact q ⟨m, e⟩
                · refine ⟨_, rfl, iteF (iteF (put H1 s1 fun b m _ e => ?_))⟩
                  injection e with e _
                  exact q ⟨b, e⟩
            · rw [decide_eq_false (show ¬ V.int (((V.str "take" :: r).length : Nat) : Int) = V.int 3 by intro e; injection e with e; omega)]
              refine iteF (iteF (put H (Same.refl _) fun b m _ e => ?_))
              rw [e] at l3
              exact l3 rfl
          · rw [decide_eq_false (show ¬ V.str z0 = V.str "take" by intro e; injection e with e; exact e0 e)]
            exact iteF (iteF (put H (Same.refl _) fun b m e _ => e0 e))
        · refine isi t1 t2 ⟨_, rfl, iteT (kn (noW fun w r2 e _ => ?_) _ (Same.refl _))⟩
          injection e with e _
          exact hn w e
  · refine ⟨_, rfl, isi t1 t2 ⟨_, rfl, iteT (iteT (kn ?_ _ (Same.refl _)))⟩⟩
    rintro ⟨b, q, e, hq, ok⟩
    cases q with
    | take b m => exact hn _ _ e hq
    | put rs => obtain ⟨q, h3, h4⟩ := hq; exact hn _ _ e h3
theorem pure_l_is_scriptA (h : sp_l_is_scriptA K vs H Q E) : t_l_is_scriptA K { nx := fun _ H' => Q .non H', rt := Q } (start N_l_is_scriptA vs) H := by
  obtain ⟨x, D, B, rfl, a, hB, y⟩ := h
  rcases a.tupC K with ⟨p, xs, rfl, n, hp, hz, hall⟩ | ⟨⟨ty, t1, t2⟩, hn⟩
  · refine ⟨_, rfl, isi (.base (.tup hp)) k_tt ⟨_, rfl, iteF ⟨_, rfl, p, rfl, ⟨_, sqT hp⟩, ?_⟩⟩⟩
    refine for_tup (K := K) (a := p) (xs := xs) (fun i σ H' => Same H H' ∧ ∃ z as ps, xs.take i = as.map V.ref ∧ PsAt H as ps ∧ (∀ p ∈ ps, p.ok) ∧ σ = [some (.ref p), some (.int ((total ps : Nat) : Int)), z]) ⟨Same.refl _, none, [], [], by rw [List.take_zero]; rfl, .nil, (fun p hp => by cases hp), rfl⟩ (fun i σ H' _ p => sqT (p.1 _ _ hp)) ?_ ?_
    · rintro i x σ H1 hx ⟨s1, z, as, ps, hxs, hps, ok, rfl⟩
      have mx := List.mem_of_getElem? hx
      have ax := hall x mx
      refine ⟨_, rfl, x, D, B, rfl, ax.same s1, hB, fun c q ex hq okq H2 s2 => ?_, fun nq H2 s2 => ?_⟩
      · subst ex
        have q1 := Pc.one okq
        have hq0 := hq.back ax s1
        refine ⟨rfl, _, rfl, ?_⟩
        rw [decide_eq_false (show ¬ V.int (q.n : Int) = V.int 0 by intro e; injection e with e; omega)]
        refine iteF ⟨_, rfl, _, rfl, .ref c, D, B, rfl, ax.same (s1.trans s2), hB, fun c2 q2 ec hq2 okq2 H3 s3 => ?_, fun nq H3 s3 => ?_⟩
        · injection ec with ec
          subst ec
          have e : q2 = q := PcAt.inj (hq2.back ax (s1.trans s2)) hq0
          subst e
          refine ⟨_, _, rfl, rfl, (s1.trans s2).trans s3, some (.ref c), as ++ [c], ps ++ [q2], ?_, hps.snoc hq0, fun p hp => ?_, ?_⟩
          · rw [List.take_add_one, hx, hxs, List.map_append]
            rfl
          · rcases List.mem_append.mp hp with hp | hp
            · exact ok p hp
            · rw [List.mem_singleton.mp hp]
              exact okq2
          · rw [total_snoc, show ((total ps + q2.n : Nat) : Int) = ((total ps : Nat) : Int) + (q2.n : Int) by omega]
            rfl
        · exact absurd ⟨c, q, rfl, hq.mono (.of s2), okq⟩ nq
      · refine ⟨rfl, _, rfl, iteT (y.2 (fun sc => nq ?_) _ (s1.trans s2))⟩
        exact (scr_pies hp sc x mx).mono s1
    · rintro σ H1 ⟨s1, z, as, ps, hxs, hps, ok, rfl⟩
      rw [List.take_of_length_le (Nat.le_refl _)] at hxs
      refine ⟨_, rfl, _, _, rfl, rfl, ?_⟩
      show Q (.bl (decide (((total ps : Nat) : Int) ≤ 40))) H1
      rw [dc_dec, ← dc_congr (scr_iff ⟨as, by rw [hp, hxs], hps⟩ ok)]
      exact y.run s1
  · refine ⟨_, rfl, isi t1 t2 ⟨_, rfl, iteT (y.no ?_)⟩⟩
    rintro ⟨b, ps, e, ⟨as, hq, _⟩, _⟩
    exact hn _ _ e hq
theorem pure_l_fitsA (h : sp_l_fitsA K vs H Q E) : t_l_fitsA K { nx := fun _ H' => Q .non H', rt := Q } (start N_l_fitsA vs) H := by
  obtain ⟨M, bs, x, D, B, rfl, hM, a, hB, y⟩ := h
  refine ⟨_, rfl, x, D, B, rfl, a, hB, fun p H1 s1 => ?_, fun p H1 s1 => ⟨_, rfl, iteT (y.2 (fun f => p f.scr) _ s1)⟩⟩
  obtain ⟨c, ps, rfl, sc, ok⟩ := p
  have fi := fit_iff (L := bs.length) sc ok
  obtain ⟨as, ha, hp⟩ := sc.mono (.of s1)
  refine ⟨_, rfl, iteF ⟨_, rfl, c, rfl, ⟨_, sqT ha⟩, ?_⟩⟩
  refine for_tup (K := K) (a := c) (xs := as.map V.ref) (fun i σ H' => H' = H1 ∧ (∀ p ∈ ps.take i, p.fits bs.length) ∧ ∃ z, σ = [some (.ref M), some (.ref c), z]) ⟨rfl, (fun p hp => by rw [List.take_zero] at hp; cases hp), none, rfl⟩ (fun i σ H' _ p => by rw [p.1]; exact sqT ha) ?_ ?_
  · rintro i x σ H' hx ⟨rfl, fit, z, rfl⟩
    obtain ⟨b, p, rfl, h1, h2, h3⟩ := sc_get hp hx
    have more : p.fits bs.length → ∀ q ∈ ps.take (i + 1), q.fits bs.length := fun f q hq => by
      rw [List.take_add_one, h2] at hq
      rcases List.mem_append.mp hq with hq | hq
      · exact fit q hq
      · rw [List.mem_singleton.mp hq]
        exact f
    cases p with
    | take b m =>
      refine ⟨_, rfl, ixT h3 rfl ⟨rfl, _, rfl, ?_⟩⟩
      rw [decide_eq_true rfl]
      refine iteT ⟨_, rfl, ixT h3 rfl ⟨_, rfl, ixT h3 rfl ⟨_, _, rfl, rfl, _, rfl, lenT (s1 _ _ hM) ⟨_, _, rfl, rfl, _, rfl, ?_⟩⟩⟩⟩
      by_cases q : (((bs.map V.str).length : Nat) : Int) < (b : Int) + (m : Int)
      · rw [decide_eq_true q]
        refine iteT (y.2 (fun f => ?_) _ s1)
        have f : b + m ≤ bs.length := fi.mp f _ (List.mem_of_getElem? h2)
        rw [List.length_map] at q
        omega
      · rw [decide_eq_false q]
        rw [List.length_map] at q
        exact iteF ⟨rfl, more (show b + m ≤ bs.length by omega), _, rfl⟩
    | put rs =>
      obtain ⟨q, h4, h5⟩ := h3
      refine ⟨_, rfl, ixT h4 rfl ⟨rfl, _, rfl, ?_⟩⟩
      rw [put_take]
      exact iteF (iteF ⟨rfl, more True.intro, _, rfl⟩)
  · rintro σ H' ⟨rfl, fit, z, rfl⟩
    rw [List.length_map, hp.1, List.take_of_length_le (Nat.le_refl _)] at fit
    exact y.1 (fi.mpr fit) _ s1
end
end Fw

set_option Elab.async false
set_option linter.all false
set_option maxRecDepth 100000
set_option maxHeartbeats 4000000
namespace Fw
open PySem L2 RZ RT
theorem SqL.kp {K : PySem.W.Frag} {D a : Addr} {H H' : Hp} {xs : List V} (h : SqL K H a xs) (k : Kp D H H') (n : H D = none) : SqL K H' a xs := by
  rcases h with (h | ⟨o, h⟩) | h
  · exact .inl (.inl (k _ _ h (ne_of_none h n)))
  · exact .inl (.inr ⟨o, k _ _ h (ne_of_none h n)⟩)
  · exact .inr h
/-! ### what is caught -/
def tTryOnly (K : PySem.W.Frag) (c : Value) (tb : WX → TS) (ts : Addr → Value → Option Addr → TS) : TS := fun D σ H => tb (wOnly K c ts (fun _ _ _ _ => False) D) D σ H
def tTryAs (K : PySem.W.Frag) (c : Value) (i : Nat) (tb : WX → TS) (ts : Addr → Value → Option Addr → TS) : TS := fun D σ H => tb (wAs K c i ts (fun _ _ _ _ => False) D) D σ H
/-- isinstance(e, c), e what the clause holds, of whatever class -/
def rIsX (K : PySem.W.Frag) (a : Addr) (cls : Value) (d : Option Addr) : List V → Hp → VK → Prop := fun xs H Q => ∃ C, cls = .ref C ∧ d = none ∧ ExcC K C ∧ rIsE K C a xs H Q
theorem call_isX {X : Cx} {a : Addr} {cls : Value} {d : Option Addr} {oe : Obj} {pn : List (Addr × Obj)} (hz : Zc cls d oe) (hf : ∃ vs, oe.data = .fields vs) : CallR (X.suite a ((a, oe) :: pn)) (.builtin "isinstance") (rIsX X.K a cls d) := by
  intro pins s σ H xs us Q I r h
  obtain ⟨C, rfl, rfl, c, h⟩ := h
  exact call_isE c hz hf pins s σ H xs us Q I r h
structure Kinds37 (K : PySem.W.Frag) : Prop where
  em : PySem.W.exmOne K (.ref (He.ga K "NoScript")) (.ref (He.ga K "NoScript")) = some true
  em2 : PySem.W.exmOne K (.ref (He.ga K "NoScript")) (.ref (He.ga K "HouseError")) = some true
  ec : ExcC K (He.ga K "NoScript")
  k1 : PySem.W.kitOne K (.ref (He.ga K "NoScript")) (.type "ValueError") = some true
  k2 : PySem.W.kitOne K (.ref (He.ga K "NoScript")) (.ref (He.ga K "NoScript")) = some true
  k3 : PySem.W.kitOne K (.ref (He.ga K "NoScript")) (.ref (He.ga K "BadRow")) = some false
def exB37 (K : PySem.W.Frag) : Bool :=
  decide (PySem.W.findIn K (.ref (He.ga K "NoScript")) "__getattribute__" = some (some (.builtin "BaseException.__getattribute__"))) && (decide (PySem.W.findIn K (.ref (He.ga K "NoScript")) "__getattr__" = some none) &&
  (decide (PySem.W.subIn K (.ref (He.ga K "NoScript")) (.type "BaseException") = some true) && (PySem.W.hasDictIn K (He.ga K "NoScript") &&
  (decide (PySem.W.findIn K (.ref (He.ga K "NoScript")) "__class__" = some (some (.builtin "object.__class__"))) &&
  (decide (PySem.W.specialIn K (.builtin "object.__class__") "__get__" = some (some (.builtin "getset_descriptor.__get__"))) && (decide (PySem.W.takesIn K (.builtin "object.__class__") = some true) &&
  (decide (PySem.W.mroIn K (He.ga K "NoScript") (.type "object") = some true) && (decide (PySem.W.exmOne K (.ref (He.ga K "NoScript")) (.ref (He.ga K "NoScript")) = some true) &&
  (decide (PySem.W.exmOne K (.ref (He.ga K "NoScript")) (.ref (He.ga K "HouseError")) = some true) &&
  (decide (PySem.W.kitOne K (.ref (He.ga K "NoScript")) (.type "ValueError") = some true) && (decide (PySem.W.kitOne K (.ref (He.ga K "NoScript")) (.ref (He.ga K "NoScript")) = some true) &&
  decide (PySem.W.kitOne K (.ref (He.ga K "NoScript")) (.ref (He.ga K "BadRow")) = some false))))))))))))
theorem kinds37_of {K : PySem.W.Frag} (h : exB37 K = true) : Kinds37 K := by
  unfold exB37 at h
  simp only [Bool.and_eq_true, decide_eq_true_eq] at h
  obtain ⟨h1, h2, h3, h4, h5, h6, h7, h8, h9, h10, h11, h12, h13⟩ := h
  exact ⟨h9, h10, ⟨h1, h2, h3, h4, h5, h6, h7, h8⟩, h11, h12, h13⟩
/-! ### a head with a Bool more -/
abbrev AlY : Type := He.AlD × Bool
def obsYG (n : Nat) (fa : List He.Fa) (fn : List He.DefD) (ex : PySem.W.Frag → Bool) (g : Addr → Option Obj) : AlY := (He.obsD fa fn (He.frG g (He.asD g n)), ex (He.frG g (He.asD g n)))
def hookY (n : Nat) (fa : List He.Fa) (fn : List He.DefD) (ex : PySem.W.Frag → Bool) : PySem.W.Hook where
  α := AlY
  obs := fun s => obsYG n fa fn ex s.heap.get?
  val := fun _ => (He.valD fn, true)
  says := fun _ h => ∃ K : PySem.W.Frag, K.In h ∧ He.SaysD fa fn K ∧ ex K = true
  of := fun _ _ e => ⟨_, He.frG_in, congrArg (fun z : AlY => z.1) e, congrArg (fun z : AlY => z.2) e⟩
  keeps := fun _ _ _ ⟨K, hK, c⟩ k => ⟨K, PySem.W.Frag.In.keeps hK k, c⟩
theorem obsYG_eq {n : Nat} {fa : List He.Fa} {fn : List He.DefD} {ex : PySem.W.Frag → Bool} {g : Addr → Option Obj} {s : Shared} (h : ∀ a, g a = s.heap.get? a) : obsYG n fa fn ex g = (hookY n fa fn ex).obs s := by
  have e : g = s.heap.get? := funext h
  rw [e] <;> rfl
theorem rel_ref {a : Addr} : ∀ u, RelV (.ref a) u → u = Value.ref a := fun u h => by
  cases h
  rfl
theorem rel_ty {a : String} : ∀ u, RelV (.ty a) u → u = Value.type a := fun u h => by
  cases h
  rfl
/-! ### told or refused -/
def Jn (H : Hp) (L : Nat) (x y : V) : Prop := ∃ a ps, x = .ref a ∧ ScAt H a ps ∧ ScOk ps ∧ (∀ p ∈ ps, p.fits L) ∧ Fit H y (total ps)
def sp_l_done (_ : PySem.W.Frag) : Sp := fun vs H Q _ => ∃ (M : Addr) (bs : List Str) (x : V) (D : Addr) (B : Nat), vs = [.ref M, x] ∧ RwAt H M bs ∧ Ad D B H x ∧ B ≤ 1000 ∧
  (∀ a ps, x = .ref a → ScAt H a ps → ScOk ps → (∀ p ∈ ps, p.fits bs.length) → ∀ T r H', Same H H' → H' T = some (.tup [.str "told", .ref r]) → RwAt H' r (makes bs ps) → Q (.ref T) H') ∧ (¬ Fit H x bs.length → ∀ T H', Same H H' → H' T = some (.tup [.str "refused"]) → Q (.ref T) H')
def sp_l_priced (_ : PySem.W.Frag) : Sp := fun vs H Q _ => ∃ (x : V) (D : Addr) (B : Nat), vs = [x] ∧ Ad D B H x ∧ B ≤ 1000 ∧
  (∀ a ps, x = .ref a → ScAt H a ps → ScOk ps → ∀ T H', Same H H' → H' T = some (.tup [.str "told", .int (cost 3 2 ps)]) → Q (.ref T) H') ∧ (¬ Scr H x → ∀ T H', Same H H' → H' T = some (.tup [.str "refused"]) → Q (.ref T) H')
def sp_l_joins (_ : PySem.W.Frag) : Sp := fun vs H Q _ => ∃ (M : Addr) (bs : List Str) (x y : V) (D : Addr) (B : Nat), vs = [.ref M, x, y] ∧ RwAt H M bs ∧ Ad D B H x ∧ Ad D B H y ∧ B ≤ 1000 ∧ Yn (Jn H bs.length x y) H Q
def sp_l_kinds (_ : PySem.W.Frag) : Sp := fun vs H Q _ => ∃ (M : Addr) (bs : List Str) (x : V) (D : Addr) (B : Nat), vs = [.ref M, x] ∧ RwAt H M bs ∧ Ad D B H x ∧ B ≤ 1000 ∧ ¬ Fit H x bs.length ∧ ∀ T H', Same H H' → H' T = some (.tup [.bl true, .bl true, .bl false]) → Q (.ref T) H'
section
variable {K : PySem.W.Frag} {vs : List V} {H : Hp} {Q : VK} {E : XK}
theorem len_l_done (h : sp_l_done K vs H Q E) : vs.length = 2 := by obtain ⟨_, _, _, _, _, rfl, _⟩ := h; rfl
theorem len_l_priced (h : sp_l_priced K vs H Q E) : vs.length = 1 := by obtain ⟨_, _, _, rfl, _⟩ := h; rfl
theorem len_l_joins (h : sp_l_joins K vs H Q E) : vs.length = 3 := by obtain ⟨_, _, _, _, _, _, rfl, _⟩ := h; rfl
theorem len_l_kinds (h : sp_l_kinds K vs H Q E) : vs.length = 2 := by obtain ⟨_, _, _, _, _, rfl, _⟩ := h; rfl
end
abbrev N_l_done : List Str := ["_law_base", "_law_thing", "_law_told"]
def t_l_done (K : PySem.W.Frag) : TS := (tSeq (tAsg (tTup (tCons (tC (.str "refused")) tNil)) (gName 2))
    (tSeq (tTryOnly K (.ref (He.ga K "NoScript")) (fun W => (tAsg (tTup (tCons (tC (.str "told")) (tCons (tCallS (sp_doneA K) (WE W) (tCons (tVar 0) (tCons (tVar 1) tNil))) tNil))) (gName 2))) (fun _ _ _ => (tAsg (tTup (tCons (tC (.str "refused")) tNil)) (gName 2))))
    (tRet (tVar 2))))
abbrev N_l_priced : List Str := ["_law_thing", "_law_told"]
def t_l_priced (K : PySem.W.Frag) : TS := (tSeq (tAsg (tTup (tCons (tC (.str "refused")) tNil)) (gName 1))
    (tSeq (tTryOnly K (.ref (He.ga K "NoScript")) (fun W => (tAsg (tTup (tCons (tC (.str "told")) (tCons (tCallSD (sp_priceA K) [.int 3, .int 2] (WE W) (tCons (tVar 0) tNil)) tNil))) (gName 1))) (fun _ _ _ => (tAsg (tTup (tCons (tC (.str "refused")) tNil)) (gName 1))))
    (tRet (tVar 1))))
abbrev N_l_joins : List Str := ["_law_base", "_law_one", "_law_other", "_law_good"]
def t_l_joins (K : PySem.W.Frag) : TS := (tSeq (tAsg (tC (.bl true)) (gName 3))
    (tSeq (tTryOnly K (.ref (He.ga K "NoScript")) (fun W => (tDrop (tCallS (sp_joinedA K) (WE W) (tCons (tVar 0) (tCons (tVar 1) (tCons (tVar 2) tNil)))))) (fun _ _ _ => (tAsg (tC (.bl false)) (gName 3))))
    (tRet (tVar 3))))
abbrev N_l_kinds : List Str := ["_law_base", "_law_thing", "_law_kinds_here", "e"]
def t_l_kinds (K : PySem.W.Frag) : TS := (tSeq (tAsg (tTup (tCons (tC (.bl false)) (tCons (tC (.bl false)) (tCons (tC (.bl true)) tNil)))) (gName 2))
    (tSeq (tTryAs K (.ref (He.ga K "HouseError")) 3 (fun W => (tDrop (tCallS (sp_doneA K) (WE W) (tCons (tVar 0) (tCons (tVar 1) tNil))))) (fun xa xcls xd => (tAsg (tTup (tCons (tCB (rIsX K xa xcls xd) (tCons (tVar 3) (tCons (tC (.ty "ValueError")) tNil))) (tCons (tCB (rIsX K xa xcls xd) (tCons (tVar 3) (tCons (tC (.ref (He.ga K "NoScript"))) tNil))) (tCons (tCB (rIsX K xa xcls xd) (tCons (tVar 3) (tCons (tC (.ref (He.ga K "BadRow"))) tNil))) tNil)))) (gName 2))))
    (tRet (tVar 2))))
abbrev N_law : List Str := ["_law_script_here", "_law_deck_here", "_law_stock_here", "_law_k", "_law_times", "_law_base", "_law_pieces", "_law_thing", "_law_fits_here", "_law_due", "_law_one"]
def t_law_cut (K : PySem.W.Frag) : TS := (tAsg (tSl (rSlA K) (tVar 5) tNoPart (tPart (tCall (sp_l_draw K) [] E0 (tCons (tVar 1) (tCons (tOp rAddI (tCB (fLen K) (tCons (tVar 5) tNil)) (tC (.int 1))) tNil))))) (gName 5))
def t_law_joins (K : PySem.W.Frag) : TS := (tIfS (tOr (tTest (tOp rNe (tCall (sp_l_joins K) [] E0 (tCons (tVar 5) (tCons (tVar 7) (tCons (tTup tNil) tNil)))) (tVar 8))) (tTest (tOp rNe (tCall (sp_l_joins K) [] E0 (tCons (tCB (fTupleOf K) (tCons (tSl (rSlL K) (tVar 2) tNoPart (tPart (tC (.int 1)))) tNil)) (tCons (tVar 10) (tCons (tVar 7) tNil)))) (tVar 8)))) (tRet (tC (.bl false))) tNext)
def t_law_one (K : PySem.W.Frag) : TS := (tSeq (tAsg (tTup tNil) (gName 10))
    (tSeq (tIfS (tTest (tOp rGtI (tCB (fLen K) (tCons (tVar 5) tNil)) (tC (.int 0)))) (tAsg (tTup (tCons (tTup (tCons (tC (.str "put")) (tCons (tVar 5) tNil))) tNil)) (gName 10)) tNext)
    (t_law_joins K)))
def t_law_price2 (K : PySem.W.Frag) : TS := (tSeq (tIfS (tNot (tB (tCall (sp_l_same2 K) [] E0 (tCons (tCall (sp_l_priced K) [] E0 (tCons (tVar 7) tNil)) (tCons (tVar 9) tNil))))) (tRet (tC (.bl false))) tNext)
    (t_law_one K))
def t_law_price (K : PySem.W.Frag) : TS := (tSeq (tAsg (tTup (tCons (tC (.str "refused")) tNil)) (gName 9))
    (tSeq (tIfS (tB (tCall (sp_l_is_scriptA K) [] E0 (tCons (tVar 7) tNil))) (tAsg (tTup (tCons (tC (.str "told")) (tCons (tCall (sp_l_cost K) [] E0 (tCons (tVar 7) (tCons (tC (.int 3)) (tCons (tC (.int 2)) tNil)))) tNil))) (gName 9)) tNext)
    (t_law_price2 K)))
def t_law_kinds (K : PySem.W.Frag) : TS := (tSeq (tIfS (tNot (tB (tCall (sp_l_same2 K) [] E0 (tCons (tCall (sp_l_done K) [] E0 (tCons (tVar 5) (tCons (tVar 7) tNil))) (tCons (tVar 9) tNil))))) (tRet (tC (.bl false))) tNext)
    (tSeq (tIfS (tAnd (tNot (tB (tVar 8))) (tTest (tOp (rNeD K) (tCall (sp_l_kinds K) [] E0 (tCons (tVar 5) (tCons (tVar 7) tNil))) (tTup (tCons (tC (.bl true)) (tCons (tC (.bl true)) (tCons (tC (.bl false)) tNil))))))) (tRet (tC (.bl false))) tNext)
    (t_law_price K)))
def t_law_done (K : PySem.W.Frag) : TS := (tSeq (tIfS (tB (tVar 8)) (tAsg (tTup (tCons (tC (.str "told")) (tCons (tCall (sp_l_made K) [] E0 (tCons (tVar 5) (tCons (tVar 7) tNil))) tNil))) (gName 9)) tNext)
    (t_law_kinds K))
def t_law_fits (K : PySem.W.Frag) : TS := (tSeq (tAsg (tCall (sp_l_fitsA K) [] E0 (tCons (tVar 5) (tCons (tVar 7) tNil))) (gName 8))
    (tSeq (tAsg (tTup (tCons (tC (.str "refused")) tNil)) (gName 9))
    (t_law_done K)))
def t_law (K : PySem.W.Frag) : TS := (tSeq (tAsg (tCall (sp_l_deck K) [] E0 (tCons (tVar 0) tNil)) (gName 1))
    (tSeq (tAsg (tCall (sp_l_stock K) [] E0 (tCons (tVar 1) tNil)) (gName 2))
    (tSeq (tFor (iRng1 (tCons (tOp rAddI (tC (.int 1)) (tOp rDivI (tCB fMin2 (tCons (tCB (fLen K) (tCons (tVar 0) tNil)) (tCons (tC (.int 40)) tNil))) (tC (.int 4)))) tNil)) (gName 3) (tSeq (tAsg (tCall (sp_l_draw K) [] E0 (tCons (tVar 1) (tCons (tC (.int 3)) tNil))) (gName 4))
    (tSeq (tAsg (tCall (sp_l_lines K) [] E0 (tCons (tVar 1) (tCons (tVar 2) (tCons (tCall (sp_l_most K) [] E0 (tCons (tVar 1) tNil)) tNil)))) (gName 5))
    (tSeq (tAsg (tCall (sp_l_script K) [] E0 (tCons (tVar 1) (tCons (tVar 5) (tCons (tVar 2) (tCons (tCall (sp_l_most K) [] E0 (tCons (tVar 1) tNil)) tNil))))) (gName 6))
    (tSeq (tAsg (tCall (sp_l_spoiled K) [] E0 (tCons (tVar 1) (tCons (tVar 6) (tCons (tVar 4) tNil)))) (gName 7))
    (tSeq (tIfS (tTest (tOp rEq (tCall (sp_l_draw K) [] E0 (tCons (tVar 1) (tCons (tC (.int 3)) tNil))) (tC (.int 0)))) (t_law_cut K) tNext)
    (t_law_fits K)))))))
    (tRet (tC (.bl true))))))
section
variable {K : PySem.W.Frag} {vs : List V} {H : Hp} {Q : VK} {E : XK}
theorem pure_l_done (C : Kinds37 K) (h : sp_l_done K vs H Q E) : t_l_done K { nx := fun _ H' => Q .non H', rt := Q } (start N_l_done vs) H := by
  obtain ⟨M, bs, x, D, B, rfl, hM, a, hB, ky, kn⟩ := h
  refine ⟨by show (1 : Nat) ≤ sizeLine; decide, fun T0 nT0 => ?_⟩
  have s0 : Same H (upd H T0 (.tup [.str "refused"])) := samNw nT0
  refine ⟨_, rfl, _, rfl, M, bs, x, D, B, rfl, s0 _ _ hM, a.same s0, hB, fun c ps e sc ok fit r H1 s1 hr => ?_, fun nf H1 s1 => ?_⟩
  · refine ⟨by show (2 : Nat) ≤ sizeLine; decide, fun T nT => ⟨_, rfl, ?_⟩⟩
    subst e
    have s2 : Same H1 (upd H1 T (.tup [.str "told", .ref r])) := samNw nT
    exact ky c ps rfl (sc.back a s0) ok fit T r _ ((s0.trans s1).trans s2) updS (s2 _ _ hr)
  · refine ⟨true, C.em, fun _ b hb => ?_, fun z => nomatch z⟩
    refine ⟨by show (1 : Nat) ≤ sizeLine; decide, fun T nT => ⟨_, rfl, ?_⟩⟩
    exact kn (fun f => nf (f.mono s0)) T _ ((s0.trans s1).trans (samNw nT)) updS
theorem pure_l_priced (C : Kinds37 K) (h : sp_l_priced K vs H Q E) : t_l_priced K { nx := fun _ H' => Q .non H', rt := Q } (start N_l_priced vs) H := by
  obtain ⟨x, D, B, rfl, a, hB, ky, kn⟩ := h
  refine ⟨by show (1 : Nat) ≤ sizeLine; decide, fun T0 nT0 => ?_⟩
  have s0 : Same H (upd H T0 (.tup [.str "refused"])) := samNw nT0
  refine ⟨_, rfl, x, D, B, 3, 2, rfl, a.same s0, hB, by decide, by decide, by decide, by decide, fun c ps e sc ok H1 s1 => ?_, fun nf H1 s1 => ?_⟩
  · refine ⟨by show (2 : Nat) ≤ sizeLine; decide, fun T nT => ⟨_, rfl, ?_⟩⟩
    subst e
    exact ky c ps rfl (sc.back a s0) ok T _ ((s0.trans s1).trans (samNw nT)) updS
  · refine ⟨true, C.em, fun _ b hb => ?_, fun z => nomatch z⟩
    refine ⟨by show (1 : Nat) ≤ sizeLine; decide, fun T nT => ⟨_, rfl, ?_⟩⟩
    exact kn (fun f => nf (f.mono s0)) T _ ((s0.trans s1).trans (samNw nT)) updS
theorem pure_l_joins (C : Kinds37 K) (h : sp_l_joins K vs H Q E) : t_l_joins K { nx := fun _ H' => Q .non H', rt := Q } (start N_l_joins vs) H := by
  obtain ⟨M, bs, x, y, D, B, rfl, hM, ax, ay, hB, yn⟩ := h
  have bad : ∀ H1, Same H H1 → ¬ Jn H bs.length x y → ∃ b, PySem.W.exmOne K (.ref (He.ga K "NoScript")) (.ref (He.ga K "NoScript")) = some b := fun _ _ _ => ⟨true, C.em⟩
  refine ⟨_, rfl, _, rfl, _, rfl, M, bs, x, y, D, B, rfl, hM, ax, ay, hB, fun c ps e sc ok fit fy r H1 s1 => ?_, fun c ps e sc ok fit fy H1 s1 => ?_, fun nf H1 s1 => ?_⟩
  · exact ⟨_, rfl, yn.1 ⟨c, ps, e, sc, ok, fit, fy⟩ _ s1⟩
  · refine ⟨true, C.em, fun _ b hb => ?_, fun z => nomatch z⟩
    refine ⟨_, rfl, yn.2 ?_ _ s1⟩
    rintro ⟨c2, ps2, e2, sc2, ok2, fit2, fy2⟩
    rw [e] at e2
    injection e2 with e2
    subst e2
    rw [ScAt.inj sc2 sc] at fy2
    exact fy fy2
  · refine ⟨true, C.em, fun _ b hb => ?_, fun z => nomatch z⟩
    refine ⟨_, rfl, yn.2 ?_ _ s1⟩
    rintro ⟨c2, ps2, e2, sc2, ok2, fit2, fy2⟩
    exact nf ⟨c2, ps2, e2, sc2, ok2, fit2⟩
theorem pure_l_kinds (C : Kinds37 K) (h : sp_l_kinds K vs H Q E) : t_l_kinds K { nx := fun _ H' => Q .non H', rt := Q } (start N_l_kinds vs) H := by
  obtain ⟨M, bs, x, D, B, rfl, hM, a, hB, nf, k⟩ := h
  refine ⟨by show (3 : Nat) ≤ sizeLine; decide, fun T0 nT0 => ?_⟩
  have s0 : Same H (upd H T0 (.tup [.bl false, .bl false, .bl true])) := samNw nT0
  refine ⟨_, rfl, _, rfl, M, bs, x, D, B, rfl, s0 _ _ hM, a.same s0, hB, fun c ps e sc ok fit r H1 s1 hr => ?_, fun _ H1 s1 => ?_⟩
  · subst e
    exact absurd ⟨c, ps, rfl, sc.back a s0, ok, fit⟩ nf
  · refine ⟨true, C.em2, fun _ b hb => ?_, fun z => nomatch z⟩
    refine ⟨_, rfl, _, rfl, rfl, C.ec, _, _, _, rfl, rel_ty, C.k1, ?_⟩
    refine ⟨_, rfl, _, rfl, rfl, C.ec, _, _, _, rfl, rel_ref, C.k2, ?_⟩
    refine ⟨_, rfl, _, rfl, rfl, C.ec, _, _, _, rfl, rel_ref, C.k3, ?_⟩
    refine ⟨by show (3 : Nat) ≤ sizeLine; decide, fun T nT => ⟨_, rfl, ?_⟩⟩
    exact k T _ ((s0.trans s1).trans (samNw nT)) updS
/-! ### the law -/
theorem rows_same {H : Hp} {n : Nat} {r q : Addr} {zs : List Str} (h1 : RwAt H r zs) (h2 : RwAt H q zs) (hz : zs.length ≤ 1000) : SameV H (n + 2) (.ref r) (.ref q) :=
  SameV.tup h1 h2 rfl (by rw [List.length_map]; omega) SameV.strs
theorem SameV.str {H : Hp} {n : Nat} {i j : Str} (e : i = j) : SameV H (n + 1) (.str i) (.str j) := Or.inl ⟨by rw [e], .inr (.inr (.inr ⟨i, rfl⟩))⟩
theorem nopct {z : Str} (o : OkS z) : TxOk 41 z := ⟨Nat.le_trans o.1 (by decide), fun c hc => (o.2 c hc).2.2⟩
theorem Dk.tupNe {c D p : Addr} {ns : List Int} {t : Nat} {H : Hp} {xs : List V} (d : Dk c D ns t H) (h : H p = some (.tup xs)) : p ≠ D := fun e => by
  obtain ⟨ys, q⟩ := d.someD
  rw [e, q] at h
  cases h
theorem rows_ad {c D M : Addr} {ns : List Int} {t B : Nat} {bs : List Str} (d : Dk c D ns t H) (h : RwAt H M bs) (hl : bs.length ≤ 40) (ok : ∀ z ∈ bs, OkS z) (hB : 41 ≤ B) : Ad D B H (.ref M) := by
  refine .tup (d.tupNe h) h (by rw [List.length_map]; omega) fun x hx => ?_
  obtain ⟨z, hz, rfl⟩ := List.mem_map.mp hx
  exact .str ⟨Nat.le_trans (nopct (ok z hz)).1 hB, (nopct (ok z hz)).2⟩
theorem pc_ad {c D a : Addr} {ns : List Int} {t : Nat} {p : Pc} (d : Dk c D ns t H) (h : PcAt H a p) (ok : p.ok) (hn : p.n ≤ 40) : Ad D 41 H (.ref a) := by
  cases p with
  | take b m =>
    refine .tup (d.tupNe h) h (by show (3 : Nat) ≤ 41; decide) fun x hx => ?_
    rcases List.mem_cons.mp hx with rfl | hx
    · exact .str (txB_ok (by decide +kernel))
    · rcases List.mem_cons.mp hx with rfl | hx
      · exact .int _
      · rw [List.mem_singleton.mp hx]
        exact .int _
  | put rs =>
    obtain ⟨q, h1, h2⟩ := h
    refine .tup (d.tupNe h1) h1 (by show (2 : Nat) ≤ 41; decide) fun x hx => ?_
    rcases List.mem_cons.mp hx with rfl | hx
    · exact .str (txB_ok (by decide +kernel))
    · rw [List.mem_singleton.mp hx]
      exact rows_ad d h2 hn ok.2 (Nat.le_refl _)
theorem sc_ad {c D a : Addr} {ns : List Int} {t : Nat} {ps : List Pc} (d : Dk c D ns t H) (h : ScAt H a ps) (ok : ScOk ps) : Ad D 41 H (.ref a) := by
  obtain ⟨as, h1, h2⟩ := h
  have l := ok.len
  have l2 : as.length = ps.length := h2.1
  refine .tup (d.tupNe h1) h1 (by rw [List.length_map]; omega) fun x hx => ?_
  obtain ⟨i, hi, e⟩ := List.getElem_of_mem hx
  obtain ⟨b, q, rfl, e1, e2, e3⟩ := sc_get h2 (List.getElem?_eq_some_iff.mpr ⟨hi, e⟩)
  have := n_le_total (List.mem_of_getElem? e2)
  have := ok.few
  exact pc_ad d e3 (ok.ok q (List.mem_of_getElem? e2)) (by omega)
theorem nil_fit {a : Addr} {L : Nat} (h : H a = some (.tup [])) : Fit H (.ref a) L := ⟨a, [], rfl, ⟨[], h, .nil⟩, ⟨(fun p hp => by cases hp), Nat.zero_le _⟩, fun p hp => by cases hp⟩
/-- what is over the whole of a base -/
def whole (bs : List Str) : List Pc := if bs = [] then [] else [.put bs]
theorem whole_ok {bs : List Str} (hl : bs.length ≤ 40) (ok : ∀ z ∈ bs, OkS z) : ScOk (whole bs) := by
  unfold whole
  by_cases e : bs = []
  · rw [if_pos e]
    exact ⟨(fun p hp => by cases hp), Nat.zero_le _⟩
  · rw [if_neg e]
    refine ⟨fun p hp => ?_, ?_⟩
    · rw [List.mem_singleton.mp hp]
      exact ⟨e, ok⟩
    · show bs.length + 0 ≤ 40
      omega
theorem whole_fits {bs : List Str} {L : Nat} : ∀ p ∈ whole bs, p.fits L := by
  unfold whole
  by_cases e : bs = []
  · rw [if_pos e]
    exact fun p hp => by cases hp
  · rw [if_neg e]
    intro p hp
    rw [List.mem_singleton.mp hp]
    exact True.intro
theorem whole_total {bs : List Str} : total (whole bs) = bs.length := by
  unfold whole
  by_cases e : bs = []
  · rw [if_pos e, e]
    rfl
  · rw [if_neg e]
    show bs.length + 0 = _
    omega
theorem Dp.bl3 {T : Addr} {a b c : Bool} (h : H T = some (.tup [.bl a, .bl b, .bl c])) : Dp K H (.ref T) (.tuple [.bool a, .bool b, .bool c]) := .tup (sqT h) (.cons (.bl a) (.cons (.bl b) (.cons (.bl c) .nil)))
theorem same1 {T U : Addr} {z : Str} (h1 : H T = some (.tup [.str z])) (h2 : H U = some (.tup [.str z])) : SameV H 6 (.ref T) (.ref U) :=
  SameV.tup h1 h2 rfl (by show (1 : Nat) ≤ 100000; decide) fun i x y e1 e2 => by
    match i, e1, e2 with
    | 0, e1, e2 => cases Option.some.inj e1; cases Option.some.inj e2; exact SameV.str rfl
theorem same2i {T U : Addr} {z : Str} {i : Int} (h1 : H T = some (.tup [.str z, .int i])) (h2 : H U = some (.tup [.str z, .int i])) : SameV H 6 (.ref T) (.ref U) :=
  SameV.tup h1 h2 rfl (by show (2 : Nat) ≤ 100000; decide) fun i x y e1 e2 => by
    match i, e1, e2 with
    | 0, e1, e2 => cases Option.some.inj e1; cases Option.some.inj e2; exact SameV.str rfl
    | 1, e1, e2 => cases Option.some.inj e1; cases Option.some.inj e2; exact SameV.int rfl
theorem same2r {T U r q : Addr} {z : Str} {zs : List Str} (h1 : H T = some (.tup [.str z, .ref r])) (h2 : H U = some (.tup [.str z, .ref q])) (h3 : RwAt H r zs) (h4 : RwAt H q zs) (hz : zs.length ≤ 1000) : SameV H 6 (.ref T) (.ref U) :=
  SameV.tup h1 h2 rfl (by show (2 : Nat) ≤ 100000; decide) fun i x y e1 e2 => by
    match i, e1, e2 with
    | 0, e1, e2 => cases Option.some.inj e1; cases Option.some.inj e2; exact SameV.str rfl
    | 1, e1, e2 => cases Option.some.inj e1; cases Option.some.inj e2; exact rows_same h3 h4 hz
/-- what stands in a round of the law, behind the draws -/
structure Rd (c D S M : Addr) (ns : List Int) (t : Nat) (st bs : List Str) (x : V) (H : Hp) : Prop where
  dk : Dk c D ns t H
  sa : StAt H S st
  hM : RwAt H M bs
  few : bs.length ≤ 40
  ok : ∀ z ∈ bs, OkS z
  ad : Ad D 43 H x
theorem Rd.same {c D S M : Addr} {ns : List Int} {t : Nat} {st bs : List Str} {x : V} {H H' : Hp} (r : Rd c D S M ns t st bs x H) (s : Same H H') : Rd c D S M ns t st bs x H' := ⟨r.dk.same s, r.sa.same s, s _ _ r.hM, r.few, r.ok, r.ad.same s⟩
theorem fit_same {D : Addr} {B L : Nat} {H H' : Hp} {x : V} (ad : Ad D B H x) (s : Same H H') : Fit H' x L ↔ Fit H x L := ⟨fit_back ad s, fun f => f.mono s⟩
theorem scr_same {D : Addr} {B : Nat} {H H' : Hp} {x : V} (ad : Ad D B H x) (s : Same H H') : Scr H' x ↔ Scr H x := ⟨scr_back ad s, fun f => f.mono s⟩
section
variable {c D S M : Addr} {ns : List Int} {t : Nat} {st bs : List Str} {x a : V} {R : Ends} {z3 z4 z6 : Option V}
theorem law_joins {O : Addr} {z9 : Option V} (r : Rd c D S M ns t st bs x H) (hO : ScAt H O (whole bs)) (k : ∀ H', Same H H' → R.nx [some a, some (.ref D), some (.ref S), z3, z4, some (.ref M), z6, some x, some (.bl (dc (Fit H x bs.length))), z9, some (.ref O)] H') :
    t_law_joins K R [some a, some (.ref D), some (.ref S), z3, z4, some (.ref M), z6, some x, some (.bl (dc (Fit H x bs.length))), z9, some (.ref O)] H := by
  refine ⟨_, rfl, _, rfl, Nat.zero_le _, fun e0 n0 => ?_⟩
  have s0 : Same H (upd H e0 (.tup [])) := samNw n0
  have r0 := r.same s0
  refine ⟨M, bs, x, .ref e0, D, 43, rfl, r0.hM, r0.ad, .tup (r.dk.neD n0) updS (Nat.zero_le _) (fun y hy => by cases hy), by decide, Yn.of fun H1 s1 => ?_⟩
  have e1 : Jn (upd H e0 (.tup [])) bs.length x (.ref e0) ↔ Fit H x bs.length := by
    rw [← fit_same r.ad s0]
    constructor
    · rintro ⟨a, ps, e, sc, ok, fit, _⟩
      exact ⟨a, ps, e, sc, ok, fit⟩
    · rintro ⟨a, ps, e, sc, ok, fit⟩
      exact ⟨a, ps, e, sc, ok, fit, nil_fit updS⟩
  rw [dc_congr e1]
  refine ⟨_, rfl, rfl, _, rfl, ?_⟩
  rw [decide_eq_true rfl]
  refine iteF ?_
  have s01 := s0.trans s1
  have r1 := r.same s01
  have hO1 := hO.mono (.of s01)
  refine ⟨_, rfl, _, rfl, S, _, rfl, sqL r1.sa.1, fun L nL => ?_⟩
  have s2 : Same H1 (upd H1 L (.lst (cutV (st.map V.str) none (some 1)))) := samNw nL
  have ec : cutV (st.map V.str) none (some 1) = (st.take 1).map V.str := by
    unfold cutV
    rw [show HT.sIx (st.map V.str).length (st.map V.str).length (some 1) = min 1 (st.map V.str).length from HT.sIx_nat _ _ 1, HT.sIx_none, List.drop_zero, List.map_take]
    have := r.sa.2.1
    rw [List.length_map, show min 1 st.length - 0 = 1 by omega]
  refine ⟨L, _, rfl, .inl ⟨sqL updS, fun T nT => ?_⟩⟩
  have s3 := s2.trans (samNw (o := .tup (cutV (st.map V.str) none (some 1))) nT)
  have s03 := s01.trans s3
  have r3 := r.same s03
  refine ⟨_, rfl, _, rfl, T, st.take 1, .ref O, x, D, 43, rfl, ?_, (sc_ad r3.dk (hO.mono (.of s03)) (whole_ok r.few r.ok)).mono (Kp.refl _ _) (by decide), r3.ad, by decide, Yn.of fun H4 s4 => ?_⟩
  · show upd _ _ _ _ = _
    rw [updS, ec]
  have e2 : Jn (upd (upd H1 L (.lst (cutV (st.map V.str) none (some 1)))) T (.tup (cutV (st.map V.str) none (some 1)))) (st.take 1).length (.ref O) x ↔ Fit H x bs.length := by
    rw [← fit_same r.ad s03]
    constructor
    · rintro ⟨a, ps, e, sc, ok, fit, f⟩
      injection e with e
      subst e
      rw [ScAt.inj sc (hO.mono (.of s03)), whole_total] at f
      exact f
    · intro f
      refine ⟨O, whole bs, rfl, hO.mono (.of s03), whole_ok r.few r.ok, whole_fits, ?_⟩
      rw [whole_total]
      exact f
  rw [dc_congr e2]
  refine ⟨_, rfl, rfl, _, rfl, ?_⟩
  rw [decide_eq_true rfl]
  exact iteF (k _ (s03.trans s4))
theorem law_one {z9 z10 : Option V} (r : Rd c D S M ns t st bs x H) (k : ∀ z9 z10 H', Same H H' → R.nx [some a, some (.ref D), some (.ref S), z3, z4, some (.ref M), z6, some x, some (.bl (dc (Fit H x bs.length))), z9, z10] H') :
    t_law_one K R [some a, some (.ref D), some (.ref S), z3, z4, some (.ref M), z6, some x, some (.bl (dc (Fit H x bs.length))), z9, z10] H := by
  refine ⟨Nat.zero_le _, fun O0 n0 => ?_⟩
  have s0 : Same H (upd H O0 (.tup [])) := samNw n0
  have r0 := r.same s0
  refine ⟨_, rfl, lenT r0.hM ⟨_, _, rfl, rfl, _, rfl, ?_⟩⟩
  by_cases e : bs = []
  · rw [decide_eq_false (show ¬ (0 : Int) < (((bs.map V.str).length : Nat) : Int) by rw [e]; decide)]
    refine iteF ?_
    have w : ScAt (upd H O0 (.tup [])) O0 (whole bs) := by
      unfold whole
      rw [if_pos e]
      exact ⟨[], updS, .nil⟩
    rw [← dc_congr (fit_same (L := bs.length) r.ad s0)]
    refine law_joins r0 w fun H' s' => ?_
    rw [dc_congr (fit_same (L := bs.length) r.ad s0)]
    exact k _ _ _ (s0.trans s')
  · have l0 : 0 < bs.length := List.length_pos_iff.mpr e
    rw [decide_eq_true (show (0 : Int) < (((bs.map V.str).length : Nat) : Int) by rw [List.length_map]; omega)]
    refine iteT ⟨_, rfl, by show (2 : Nat) ≤ sizeLine; decide, fun P nP => ⟨by show (1 : Nat) ≤ sizeLine; decide, fun O nO => ?_⟩⟩
    have s1 := samNw (o := .tup [.str "put", .ref M]) nP
    have s2 := samNw (o := .tup [.ref P]) nO
    have s02 := (s0.trans s1).trans s2
    have w : ScAt (upd (upd (upd H O0 (.tup [])) P (.tup [.str "put", .ref M])) O (.tup [.ref P])) O (whole bs) := by
      unfold whole
      rw [if_neg e]
      refine ⟨[P], updS, rfl, fun i b q e1 e2 => ?_⟩
      match i, e1, e2 with
      | 0, e1, e2 =>
        cases Option.some.inj e1
        cases Option.some.inj e2
        exact ⟨M, s2 _ _ updS, s02 _ _ r.hM⟩
    rw [← dc_congr (fit_same (L := bs.length) r.ad s02)]
    refine law_joins (r.same s02) w fun H' s' => ?_
    rw [dc_congr (fit_same (L := bs.length) r.ad s02)]
    exact k _ _ _ (s02.trans s')
theorem law_price2 {Du : Addr} {z10 : Option V} (r : Rd c D S M ns t st bs x H) (hy : ∀ b ps, x = .ref b → ScAt H b ps → ScOk ps → H Du = some (.tup [.str "told", .int (cost 3 2 ps)])) (hn : ¬ Scr H x → H Du = some (.tup [.str "refused"]))
    (k : ∀ z9 z10 H', Same H H' → R.nx [some a, some (.ref D), some (.ref S), z3, z4, some (.ref M), z6, some x, some (.bl (dc (Fit H x bs.length))), z9, z10] H') :
    t_law_price2 K R [some a, some (.ref D), some (.ref S), z3, z4, some (.ref M), z6, some x, some (.bl (dc (Fit H x bs.length))), some (.ref Du), z10] H := by
  have go : ∀ H', Same H H' → t_law_one K R [some a, some (.ref D), some (.ref S), z3, z4, some (.ref M), z6, some x, some (.bl (dc (Fit H x bs.length))), some (.ref Du), z10] H' := fun H' s' => by
    rw [← dc_congr (fit_same (L := bs.length) r.ad s')]
    refine law_one (r.same s') fun z9 z10 H2 s2 => ?_
    rw [dc_congr (fit_same (L := bs.length) r.ad s')]
    exact k _ _ _ (s'.trans s2)
  refine ⟨_, rfl, x, D, 43, rfl, r.ad, by decide, fun b ps e sc ok T H1 s1 hT => ?_, fun nf T H1 s1 hT => ?_⟩
  · exact ⟨_, rfl, _, _, rfl, same2i hT (s1 _ _ (hy b ps e sc ok)), fun H2 s2 => ⟨_, rfl, iteF (go _ (s1.trans s2))⟩⟩
  · exact ⟨_, rfl, _, _, rfl, same1 hT (s1 _ _ (hn nf)), fun H2 s2 => ⟨_, rfl, iteF (go _ (s1.trans s2))⟩⟩
theorem law_price {z9 z10 : Option V} (r : Rd c D S M ns t st bs x H) (k : ∀ z9 z10 H', Same H H' → R.nx [some a, some (.ref D), some (.ref S), z3, z4, some (.ref M), z6, some x, some (.bl (dc (Fit H x bs.length))), z9, z10] H') :
    t_law_price K R [some a, some (.ref D), some (.ref S), z3, z4, some (.ref M), z6, some x, some (.bl (dc (Fit H x bs.length))), z9, z10] H := by
  refine ⟨by show (1 : Nat) ≤ sizeLine; decide, fun U nU => ?_⟩
  have s0 : Same H (upd H U (.tup [.str "refused"])) := samNw nU
  have r0 := r.same s0
  have go : ∀ {Du : Addr} {H' : Hp}, Same H H' → (∀ b ps, x = .ref b → ScAt H' b ps → ScOk ps → H' Du = some (.tup [.str "told", .int (cost 3 2 ps)])) → (¬ Scr H' x → H' Du = some (.tup [.str "refused"])) →
      t_law_price2 K R [some a, some (.ref D), some (.ref S), z3, z4, some (.ref M), z6, some x, some (.bl (dc (Fit H x bs.length))), some (.ref Du), z10] H' := fun {Du H'} s' h1 h2 => by
    rw [← dc_congr (fit_same (L := bs.length) r.ad s')]
    refine law_price2 (r.same s') h1 h2 fun z9 z10 H2 s2 => ?_
    rw [dc_congr (fit_same (L := bs.length) r.ad s')]
    exact k _ _ _ (s'.trans s2)
  refine ⟨_, rfl, x, D, 43, rfl, r0.ad, by decide, fun p H1 s1 => ?_, fun p H1 s1 => ?_⟩
  · obtain ⟨b, ps, rfl, sc, ok⟩ := p
    have sc1 := sc.mono (.of s1)
    refine ⟨_, rfl, iteT ⟨_, rfl, b, ps, 3, 2, rfl, sc1, ok, by decide, by decide, by decide, by decide, by show (2 : Nat) ≤ sizeLine; decide, fun Du nDu => ?_⟩⟩
    have s2 := samNw (o := .tup [.str "told", .int (cost 3 2 ps)]) nDu
    refine go ((s0.trans s1).trans s2) (fun b2 ps2 e sc2 _ => ?_) fun nf => ?_
    · injection e with e
      subst e
      rw [ScAt.inj sc2 (sc1.mono (.of s2))]
      exact updS
    · exact absurd ⟨b, ps, rfl, sc1.mono (.of s2), ok⟩ nf
  · refine ⟨_, rfl, iteF (go (s0.trans s1) (fun b ps e sc ok => ?_) fun nf => s1 _ _ updS)⟩
    exact absurd (scr_back r0.ad s1 ⟨b, ps, e, sc, ok⟩) p
theorem law_kinds {Du : Addr} {z10 : Option V} (r : Rd c D S M ns t st bs x H) (hy : ∀ b ps, x = .ref b → ScAt H b ps → ScOk ps → (∀ p ∈ ps, p.fits bs.length) → ∃ q, H Du = some (.tup [.str "told", .ref q]) ∧ RwAt H q (makes bs ps)) (hn : ¬ Fit H x bs.length → H Du = some (.tup [.str "refused"]))
    (k : ∀ z9 z10 H', Same H H' → R.nx [some a, some (.ref D), some (.ref S), z3, z4, some (.ref M), z6, some x, some (.bl (dc (Fit H x bs.length))), z9, z10] H') :
    t_law_kinds K R [some a, some (.ref D), some (.ref S), z3, z4, some (.ref M), z6, some x, some (.bl (dc (Fit H x bs.length))), some (.ref Du), z10] H := by
  have go : ∀ H', Same H H' → t_law_price K R [some a, some (.ref D), some (.ref S), z3, z4, some (.ref M), z6, some x, some (.bl (dc (Fit H x bs.length))), some (.ref Du), z10] H' := fun H' s' => by
    rw [← dc_congr (fit_same (L := bs.length) r.ad s')]
    refine law_price (r.same s') fun z9 z10 H2 s2 => ?_
    rw [dc_congr (fit_same (L := bs.length) r.ad s')]
    exact k _ _ _ (s'.trans s2)
  refine ⟨_, rfl, _, rfl, M, bs, x, D, 43, rfl, r.hM, r.ad, by decide, fun b ps e sc ok fit T q H1 s1 hT hq => ?_, fun nf T H1 s1 hT => ?_⟩
  · obtain ⟨q2, h1, h2⟩ := hy b ps e sc ok fit
    have lm := makes_len fit
    have := ok.few
    refine ⟨_, rfl, _, _, rfl, same2r hT (s1 _ _ h1) hq (s1 _ _ h2) (by omega), fun H2 s2 => ⟨_, rfl, iteF ?_⟩⟩
    have f : Fit H x bs.length := ⟨b, ps, e, sc, ok, fit⟩
    refine ⟨_, rfl, _, rfl, ?_⟩
    rw [dcT f]
    have g := go _ (s1.trans s2)
    rw [dcT f] at g
    exact iteF (iteF g)
  · refine ⟨_, rfl, _, _, rfl, same1 hT (s1 _ _ (hn nf)), fun H2 s2 => ⟨_, rfl, iteF ?_⟩⟩
    have s12 := s1.trans s2
    have r2 := r.same s12
    refine ⟨_, rfl, _, rfl, ?_⟩
    have g := fun H' s' => go H' s'
    rw [dcF nf] at g ⊢
    refine iteT ⟨_, rfl, _, rfl, M, bs, x, D, 43, rfl, r2.hM, r2.ad, by decide, (fun f => nf (fit_back r.ad s12 f)), fun T3 H3 s3 hT3 => ⟨by show (3 : Nat) ≤ sizeLine; decide, fun U nU => ?_⟩⟩
    have s4 := samNw (o := .tup [.bl true, .bl true, .bl false]) nU
    refine ⟨_, _, Dp.bl3 (s4 _ _ hT3), Dp.bl3 updS, rfl, rfl, _, rfl, ?_⟩
    exact iteF (g _ ((s12.trans s3).trans s4))
theorem law_fits {z8 z9 z10 : Option V} (r : Rd c D S M ns t st bs x H) (k : ∀ z8 z9 z10 H', Same H H' → R.nx [some a, some (.ref D), some (.ref S), z3, z4, some (.ref M), z6, some x, z8, z9, z10] H') :
    t_law_fits K R [some a, some (.ref D), some (.ref S), z3, z4, some (.ref M), z6, some x, z8, z9, z10] H := by
  refine ⟨_, rfl, _, rfl, M, bs, x, D, 43, rfl, r.hM, r.ad, by decide, Yn.of fun H1 s1 => ?_⟩
  refine ⟨by show (1 : Nat) ≤ sizeLine; decide, fun U nU => ?_⟩
  have s2 := samNw (o := .tup [.str "refused"]) nU
  have s12 := s1.trans s2
  have r2 := r.same s12
  have go : ∀ {Du : Addr} {H' : Hp}, Same H H' → (∀ b ps, x = .ref b → ScAt H' b ps → ScOk ps → (∀ p ∈ ps, p.fits bs.length) → ∃ q, H' Du = some (.tup [.str "told", .ref q]) ∧ RwAt H' q (makes bs ps)) → (¬ Fit H' x bs.length → H' Du = some (.tup [.str "refused"])) →
      t_law_kinds K R [some a, some (.ref D), some (.ref S), z3, z4, some (.ref M), z6, some x, some (.bl (dc (Fit H x bs.length))), some (.ref Du), z10] H' := fun {Du H'} s' h1 h2 => by
    rw [← dc_congr (fit_same (L := bs.length) r.ad s')]
    exact law_kinds (r.same s') h1 h2 fun z9 z10 H2 s2 => k _ _ _ _ (s'.trans s2)
  refine ⟨_, rfl, _, rfl, ?_⟩
  by_cases f : Fit H x bs.length
  · obtain ⟨b, ps, rfl, sc, ok, fit⟩ := id f
    have g := fun {Du : Addr} {H' : Hp} (s' : Same H H') => go (Du := Du) (H' := H') s'
    rw [dcT f] at g ⊢
    have sc2 := sc.mono (.of s12)
    refine iteT ⟨_, rfl, _, rfl, M, b, bs, ps, rfl, r2.hM, sc2, ok, fit, fun q H3 s3 hq => ⟨by show (2 : Nat) ≤ sizeLine; decide, fun Du nDu => ?_⟩⟩
    have s4 := samNw (o := .tup [.str "told", .ref q]) nDu
    refine g ((s12.trans s3).trans s4) (fun b2 ps2 e sc3 _ _ => ⟨q, updS, ?_⟩) fun nf => ?_
    · injection e with e
      subst e
      rw [ScAt.inj sc3 (sc2.mono (.of (s3.trans s4)))]
      exact s4 _ _ hq
    · exact absurd ⟨b, ps, rfl, sc2.mono (.of (s3.trans s4)), ok, fit⟩ nf
  · have g := fun {Du : Addr} {H' : Hp} (s' : Same H H') => go (Du := Du) (H' := H') s'
    rw [dcF f] at g ⊢
    refine iteF (g s12 (fun b ps e sc ok fit => ?_) fun _ => updS)
    exact absurd (fit_back r.ad s12 ⟨b, ps, e, sc, ok, fit⟩) f
end
theorem slN {B : Addr} {bs : List Str} {m : Nat} (hB : H B = some (.tup (bs.map V.str))) (f : m ≤ bs.length) (q : ∀ (r : Addr) (H' : Hp), Same H H' → RwAt H' r (bs.take m) → Q (.ref r) H') : rSlA K (.ref B) none (some (m : Int)) H Q := by
  have e1 : HT.sIx (bs.map V.str).length 0 none = 0 := HT.sIx_none _ _
  have e2 : HT.sIx (bs.map V.str).length (bs.map V.str).length (some (m : Int)) = m := by
    rw [HT.sIx_nat, List.length_map]
    omega
  refine ⟨B, _, rfl, sqT hB, fun e => ?_, fun e r nr => ?_⟩
  · rw [e1, e2, List.length_map] at e
    refine q B H (Same.refl _) ?_
    show H B = _
    rw [hB, List.take_of_length_le (by omega)]
  · refine q r _ (Same.upd nr) ?_
    show upd H r _ r = _
    rw [updS]
    unfold cutV
    rw [e1, e2, List.drop_zero, ← List.map_take]
    rfl
def LwP (c D S : Addr) (ns : List Int) (t : Nat) (st : List Str) (sh : V) (i : Nat) (σ : L2.St) (H : Hp) : Prop := ∃ z3 z4 z5 z6 z7 z8 z9 z10 : Option V,
  σ = [some sh, some (.ref D), some (.ref S), z3, z4, z5, z6, z7, z8, z9, z10] ∧ Dk c D ns (t + 1200 * i) H ∧ StAt H S st
theorem pure_law (C : Kinds37 K) (h : sp_law K vs H Q E) : t_law K { nx := fun _ H' => Q .non H', rt := Q } (start N_law vs) H := by
  obtain ⟨a, ns, rfl, hS, hl, k⟩ := h
  refine ⟨_, rfl, a, ns, rfl, hS, hl, fun c D H1 s1 nc nD d1 => ?_⟩
  refine ⟨_, rfl, c, D, ns, 0, rfl, d1, by decide, fun S st H4 sa nS k2 d2 => ?_⟩
  have nSD : S ≠ D := d1.neD nS
  have kp : Kp D H H4 := (Kp.of_same s1).trans k2
  have hS4 : SqL K H4 a (ns.map V.int) := SqL.kp hS kp nD
  have mm := min2_eq (i := ((ns.map V.int).length : Int)) (j := 40)
  have hml : (ns.map V.int).length = ns.length := List.length_map ..
  have g0 : (0 : Int) ≤ (if (40 : Int) < ((ns.map V.int).length : Int) then 40 else ((ns.map V.int).length : Int)) := by
    by_cases q : (40 : Int) < ((ns.map V.int).length : Int)
    · rw [if_pos q]; omega
    · rw [if_neg q]; omega
  refine ⟨_, rfl, ⟨_, _, rfl, .inl ⟨_, hS4, rfl⟩, _, _, rfl, _, _, rfl, rfl, ⟨by decide, by decide⟩, _, _, rfl, rfl, _, rfl, by omega, by omega, ?_⟩⟩
  refine for_range (lo := 0) (LwP c D S ns 300 st (.ref a)) ⟨none, none, none, none, none, none, none, none, rfl, d2.le (by omega), sa⟩ ?_ ?_
  · rintro i σ H5 hi ⟨z3, z4, z5, z6, z7, z8, z9, z10, rfl, d5, sa5⟩
    have hi2 : i ≤ 11 := by omega
    -- times
    refine ⟨_, rfl, c, D, ns, _, 3, rfl, d5, by omega, by decide, by decide, fun ti H6 ti0 ti1 d6 fr6 => ?_⟩
    have sa6 := sa5.kp (Kp.fr fr6) nSD
    -- base
    refine ⟨_, rfl, _, rfl, _, rfl, c, D, ns, _, rfl, d6, by omega, fun m1 H7 m10 m11 k7 d7 => ?_⟩
    have sa7 := sa6.kp k7 nSD
    refine ⟨c, D, S, ns, _, st, m1, rfl, d7, sa7, nSD, m10, m11, by omega, fun M bs H8 hM hbs hbl k8 d8 => ?_⟩
    have sa8 := sa7.kp k8 nSD
    -- pieces
    refine ⟨_, rfl, _, rfl, _, rfl, _, rfl, c, D, ns, _, rfl, d8, by omega, fun m2 H9 m20 m21 k9 d9 => ?_⟩
    have hM9 : RwAt H9 M bs := k9.tup d8 _ _ hM
    have sa9 := sa8.kp k9 nSD
    refine ⟨c, D, M, S, ns, _, bs, st, m2, rfl, d9, hM9, by omega, sa9, nSD, m20, m21, by omega, fun P ps H10 hP okP fitP fewP subP k10 d10 => ?_⟩
    have hM10 : RwAt H10 M bs := k10.tup d9 _ _ hM9
    have sa10 := sa9.kp k10 nSD
    -- thing
    refine ⟨_, rfl, _, rfl, _, rfl, c, D, ns, _, .ref P, ti, rfl, d10, by omega, sc_ad d10 hP okP, ti0, by omega, fun x H11 k11 d11 adx => ?_⟩
    have hM11 : RwAt H11 M bs := k11.tup d10 _ _ hM10
    have sa11 := sa10.kp k11 nSD
    -- the base cut
    refine ⟨_, rfl, c, D, ns, _, 3, rfl, d11, by omega, by decide, by decide, fun v H12 v0 v1 d12 fr12 => ⟨rfl, _, rfl, ?_⟩⟩
    have k12 : Kp D H11 H12 := Kp.fr fr12
    have hM12 : RwAt H12 M bs := k12.tup d11 _ _ hM11
    have sa12 := sa11.kp k12 nSD
    have adx12 := adx.mono k12 (Nat.le_refl _)
    have okb : ∀ z ∈ bs, OkS z := fun z hz => sa5.2.2.2 z (hbs z hz)
    refine ite2 (fun _ => ?_) fun _ => ?_
    · refine ⟨_, rfl, _, rfl, _, rfl, lenT hM12 ⟨_, _, rfl, rfl, c, D, ns, _, _, rfl, d12, by omega, by omega, small100 (by rw [List.length_map]; omega), fun w H13 w0 w1 d13 fr13 => ?_⟩⟩
      have k13 : Kp D H12 H13 := Kp.fr fr13
      have hM13 : RwAt H13 M bs := k13.tup d12 _ _ hM12
      obtain ⟨m, rfl⟩ := Int.eq_ofNat_of_zero_le w0
      rw [List.length_map] at w1
      refine ⟨_, rfl, slN (m := m) hM13 (by omega) fun M2 H14 s14 hM2 => ?_⟩
      refine law_fits (a := .ref a) (t := 300 + 1200 * (i + 1)) ⟨(d13.same s14).le (by omega), (sa12.kp k13 nSD).same s14, hM2, by rw [List.length_take]; omega, fun z hz => okb z (List.mem_of_mem_take hz), (adx12.mono k13 (Nat.le_refl _)).same s14⟩ fun z8 z9 z10 H' s' => ?_
      exact ⟨_, _, _, _, _, _, _, _, rfl, ((d13.same s14).le (by omega)).same s', ((sa12.kp k13 nSD).same s14).same s'⟩
    · refine law_fits (a := .ref a) (t := 300 + 1200 * (i + 1)) ⟨d12.le (by omega), sa12, hM12, by omega, okb, adx12⟩ fun z8 z9 z10 H' s' => ?_
      exact ⟨_, _, _, _, _, _, _, _, rfl, (d12.le (by omega)).same s', sa12.same s'⟩
  · rintro σ H5 ⟨z3, z4, z5, z6, z7, z8, z9, z10, rfl, d5, sa5⟩
    exact k _
end
end Fw

set_option Elab.async false
set_option linter.all false
set_option maxRecDepth 100000
set_option maxHeartbeats 4000000
namespace K37
open PySem L2 RZ RT Fw
def top (i : Nat) : Stmt := PySem.Challenge.pw_fewasks_k37_no_script.main.body.getD i (.Pass ⟨0, 0, 0, 0⟩)
abbrev FnP (K : PySem.W.Frag) (x : Str) (st : Stmt) (f : Addr) (fd : FuncData) : Prop := FunD K x x (defArgs st) (defBody st) (defScope st) [] [] f fd
abbrev s_is_intA : Stmt := top 8
theorem sc_is_intA : FnScope N_is_intA ["thing"] (defScope s_is_intA) := ⟨rfl, rfl, rfl, by decide +kernel, rfl, by decide +kernel, by decide +kernel⟩
abbrev s_is_signA : Stmt := top 10
theorem sc_is_signA : FnScope N_is_signA ["sign"] (defScope s_is_signA) := ⟨rfl, rfl, rfl, by decide +kernel, rfl, by decide +kernel, by decide +kernel⟩
abbrev s_is_textA : Stmt := top 9
theorem sc_is_textA : FnScope N_is_textA ["thing"] (defScope s_is_textA) := ⟨rfl, rfl, rfl, by decide +kernel, rfl, by decide +kernel, by decide +kernel⟩
abbrev s_is_pairA : Stmt := top 11
theorem sc_is_pairA : FnScope N_is_pairA ["thing"] (defScope s_is_pairA) := ⟨rfl, rfl, rfl, by decide +kernel, rfl, by decide +kernel, by decide +kernel⟩
abbrev s_is_rowA : Stmt := top 12
theorem sc_is_rowA : FnScope N_is_rowA ["thing"] (defScope s_is_rowA) := ⟨rfl, rfl, rfl, by decide +kernel, rfl, by decide +kernel, by decide +kernel⟩
abbrev s_are_putA : Stmt := top 18
theorem sc_are_putA : FnScope N_are_putA ["thing"] (defScope s_are_putA) := ⟨rfl, rfl, rfl, by decide +kernel, rfl, by decide +kernel, by decide +kernel⟩
abbrev s_rows_in : Stmt := top 19
theorem sc_rows_in : FnScope N_rows_in ["piece"] (defScope s_rows_in) := ⟨rfl, rfl, rfl, by decide +kernel, rfl, by decide +kernel, by decide +kernel⟩
abbrev s_is_pieceA : Stmt := top 17
theorem sc_is_pieceA : FnScope N_is_pieceA ["thing"] (defScope s_is_pieceA) := ⟨rfl, rfl, rfl, by decide +kernel, rfl, by decide +kernel, by decide +kernel⟩
abbrev s_is_scriptA : Stmt := top 16
theorem sc_is_scriptA : FnScope N_is_scriptA ["thing"] (defScope s_is_scriptA) := ⟨rfl, rfl, rfl, by decide +kernel, rfl, by decide +kernel, by decide +kernel⟩
abbrev s_is_right_overA : Stmt := top 20
theorem sc_is_right_overA : FnScope N_is_right_overA ["base", "thing"] (defScope s_is_right_overA) := ⟨rfl, rfl, rfl, by decide +kernel, rfl, by decide +kernel, by decide +kernel⟩
abbrev s_refuse_wrongA : Stmt := top 21
theorem sc_refuse_wrongA : FnScope N_refuse_wrongA ["base", "thing"] (defScope s_refuse_wrongA) := ⟨rfl, rfl, rfl, by decide +kernel, rfl, by decide +kernel, by decide +kernel⟩
abbrev s_made : Stmt := top 23
theorem sc_made : FnScope N_made ["base", "script"] (defScope s_made) := ⟨rfl, rfl, rfl, by decide +kernel, rfl, by decide +kernel, by decide +kernel⟩
abbrev s_doneA : Stmt := top 22
theorem sc_doneA : FnScope N_doneA ["base", "script"] (defScope s_doneA) := ⟨rfl, rfl, rfl, by decide +kernel, rfl, by decide +kernel, by decide +kernel⟩
abbrev s_priceA : Stmt := top 24
theorem sc_priceA : FnScope N_priceA ["script", "take", "put"] (defScope s_priceA) := ⟨rfl, rfl, rfl, by decide +kernel, rfl, by decide +kernel, by decide +kernel⟩
abbrev s_cut_piece : Stmt := top 27
theorem sc_cut_piece : FnScope N_cut_piece ["piece", "begin", "end"] (defScope s_cut_piece) := ⟨rfl, rfl, rfl, by decide +kernel, rfl, by decide +kernel, by decide +kernel⟩
abbrev s_part_of : Stmt := top 26
theorem sc_part_of : FnScope N_part_of ["script", "begin", "end"] (defScope s_part_of) := ⟨rfl, rfl, rfl, by decide +kernel, rfl, by decide +kernel, by decide +kernel⟩
abbrev s_joinedA : Stmt := top 25
theorem sc_joinedA : FnScope N_joinedA ["base", "one", "other"] (defScope s_joinedA) := ⟨rfl, rfl, rfl, by decide +kernel, rfl, by decide +kernel, by decide +kernel⟩
abbrev s_l_deck : Stmt := top 29
abbrev N_l_deck : List Str := ["_law_script_here"]
theorem sc_l_deck : FnScope N_l_deck ["_law_script_here"] (defScope s_l_deck) := ⟨rfl, rfl, rfl, by decide +kernel, rfl, by decide +kernel, by decide +kernel⟩
abbrev s_l_mixed : Stmt := top 30
theorem sc_l_mixed : FnScope N_l_mixed ["_law_cell", "_law_turn"] (defScope s_l_mixed) := ⟨rfl, rfl, rfl, by decide +kernel, rfl, by decide +kernel, by decide +kernel⟩
abbrev s_l_draw : Stmt := top 31
theorem sc_l_draw : FnScope N_l_draw ["_law_deck_here", "_law_many"] (defScope s_l_draw) := ⟨rfl, rfl, rfl, by decide +kernel, rfl, by decide +kernel, by decide +kernel⟩
abbrev s_l_text : Stmt := top 32
abbrev N_l_text : List Str := ["_law_deck_here", "_law_size_here", "_law_signs", "_law_k"]
theorem sc_l_text : FnScope N_l_text ["_law_deck_here", "_law_size_here"] (defScope s_l_text) := ⟨rfl, rfl, rfl, by decide +kernel, rfl, by decide +kernel, by decide +kernel⟩
abbrev s_l_int : Stmt := top 33
theorem sc_l_int : FnScope N_l_int ["_law_thing"] (defScope s_l_int) := ⟨rfl, rfl, rfl, by decide +kernel, rfl, by decide +kernel, by decide +kernel⟩
abbrev s_l_same : Stmt := top 34
theorem sc_l_same : FnScope N_l_same ["_law_found", "_law_due"] (defScope s_l_same) := ⟨rfl, rfl, rfl, by decide +kernel, rfl, by decide +kernel, by decide +kernel⟩
abbrev s_l_stock : Stmt := top 35
theorem sc_l_stock : FnScope N_l_stock ["_law_deck_here"] (defScope s_l_stock) := ⟨rfl, rfl, rfl, by decide +kernel, rfl, by decide +kernel, by decide +kernel⟩
abbrev s_l_lines : Stmt := top 36
theorem sc_l_lines : FnScope N_l_lines ["_law_deck_here", "_law_stock_here", "_law_most_here"] (defScope s_l_lines) := ⟨rfl, rfl, rfl, by decide +kernel, rfl, by decide +kernel, by decide +kernel⟩
abbrev s_l_most : Stmt := top 37
theorem sc_l_most : FnScope N_l_most ["_law_deck_here"] (defScope s_l_most) := ⟨rfl, rfl, rfl, by decide +kernel, rfl, by decide +kernel, by decide +kernel⟩
abbrev s_l_script : Stmt := top 38
theorem sc_l_script : FnScope N_l_script ["_law_deck_here", "_law_base", "_law_stock_here", "_law_most_here"] (defScope s_l_script) := ⟨rfl, rfl, rfl, by decide +kernel, rfl, by decide +kernel, by decide +kernel⟩
abbrev s_l_made : Stmt := top 39
theorem sc_l_made : FnScope N_l_made ["_law_base", "_law_pieces"] (defScope s_l_made) := ⟨rfl, rfl, rfl, by decide +kernel, rfl, by decide +kernel, by decide +kernel⟩
abbrev s_l_cost : Stmt := top 40
theorem sc_l_cost : FnScope N_l_cost ["_law_pieces", "_law_by_take", "_law_by_put"] (defScope s_l_cost) := ⟨rfl, rfl, rfl, by decide +kernel, rfl, by decide +kernel, by decide +kernel⟩
abbrev s_l_is_lineA : Stmt := top 41
theorem sc_l_is_lineA : FnScope N_l_is_lineA ["_law_thing"] (defScope s_l_is_lineA) := ⟨rfl, rfl, rfl, by decide +kernel, rfl, by decide +kernel, by decide +kernel⟩
abbrev s_l_sizeA : Stmt := top 42
theorem sc_l_sizeA : FnScope N_l_sizeA ["_law_piece"] (defScope s_l_sizeA) := ⟨rfl, rfl, rfl, by decide +kernel, rfl, by decide +kernel, by decide +kernel⟩
abbrev s_l_is_scriptA : Stmt := top 43
theorem sc_l_is_scriptA : FnScope N_l_is_scriptA ["_law_thing"] (defScope s_l_is_scriptA) := ⟨rfl, rfl, rfl, by decide +kernel, rfl, by decide +kernel, by decide +kernel⟩
abbrev s_l_fitsA : Stmt := top 44
theorem sc_l_fitsA : FnScope N_l_fitsA ["_law_base", "_law_thing"] (defScope s_l_fitsA) := ⟨rfl, rfl, rfl, by decide +kernel, rfl, by decide +kernel, by decide +kernel⟩
abbrev s_l_odd : Stmt := top 45
theorem sc_l_odd : FnScope N_l_odd ["_law_deck_here"] (defScope s_l_odd) := ⟨rfl, rfl, rfl, by decide +kernel, rfl, by decide +kernel, by decide +kernel⟩
abbrev s_l_bent : Stmt := top 46
theorem sc_l_bent : FnScope N_l_bent ["_law_deck_here", "_law_thing", "_law_deep_in"] (defScope s_l_bent) := ⟨rfl, rfl, rfl, by decide +kernel, rfl, by decide +kernel, by decide +kernel⟩
abbrev s_l_spoiled : Stmt := top 47
theorem sc_l_spoiled : FnScope N_l_spoiled ["_law_deck_here", "_law_thing", "_law_times"] (defScope s_l_spoiled) := ⟨rfl, rfl, rfl, by decide +kernel, rfl, by decide +kernel, by decide +kernel⟩
abbrev s_l_done : Stmt := top 48
theorem sc_l_done : FnScope N_l_done ["_law_base", "_law_thing"] (defScope s_l_done) := ⟨rfl, rfl, rfl, by decide +kernel, rfl, by decide +kernel, by decide +kernel⟩
abbrev s_l_priced : Stmt := top 49
theorem sc_l_priced : FnScope N_l_priced ["_law_thing"] (defScope s_l_priced) := ⟨rfl, rfl, rfl, by decide +kernel, rfl, by decide +kernel, by decide +kernel⟩
abbrev s_l_joins : Stmt := top 50
theorem sc_l_joins : FnScope N_l_joins ["_law_base", "_law_one", "_law_other"] (defScope s_l_joins) := ⟨rfl, rfl, rfl, by decide +kernel, rfl, by decide +kernel, by decide +kernel⟩
abbrev s_l_kinds : Stmt := top 51
theorem sc_l_kinds : FnScope N_l_kinds ["_law_base", "_law_thing"] (defScope s_l_kinds) := ⟨rfl, rfl, rfl, by decide +kernel, rfl, by decide +kernel, by decide +kernel⟩
abbrev s_law : Stmt := top 52
theorem sc_law : FnScope N_law ["_law_script_here"] (defScope s_law) := ⟨rfl, rfl, rfl, by decide +kernel, rfl, by decide +kernel, by decide +kernel⟩
structure Tx (K : PySem.W.Frag) (mg : Str → Option Value) : Type where
  fd_is_intA : FuncData
  F_is_intA : FnP K "is_int" s_is_intA (He.fAd K ("is_int", none)) fd_is_intA
  g_is_intA : mg "is_int" = some (.ref (He.fAd K ("is_int", none)))
  fd_is_signA : FuncData
  F_is_signA : FnP K "is_sign" s_is_signA (He.fAd K ("is_sign", none)) fd_is_signA
  g_is_signA : mg "is_sign" = some (.ref (He.fAd K ("is_sign", none)))
  fd_is_textA : FuncData
  F_is_textA : FnP K "is_text" s_is_textA (He.fAd K ("is_text", none)) fd_is_textA
  g_is_textA : mg "is_text" = some (.ref (He.fAd K ("is_text", none)))
  fd_is_pairA : FuncData
  F_is_pairA : FnP K "is_pair" s_is_pairA (He.fAd K ("is_pair", none)) fd_is_pairA
  g_is_pairA : mg "is_pair" = some (.ref (He.fAd K ("is_pair", none)))
  fd_is_rowA : FuncData
  F_is_rowA : FnP K "is_row" s_is_rowA (He.fAd K ("is_row", none)) fd_is_rowA
  g_is_rowA : mg "is_row" = some (.ref (He.fAd K ("is_row", none)))
  fd_are_putA : FuncData
  F_are_putA : FnP K "are_put" s_are_putA (He.fAd K ("are_put", none)) fd_are_putA
  g_are_putA : mg "are_put" = some (.ref (He.fAd K ("are_put", none)))
  fd_rows_in : FuncData
  F_rows_in : FnP K "rows_in" s_rows_in (He.fAd K ("rows_in", none)) fd_rows_in
  g_rows_in : mg "rows_in" = some (.ref (He.fAd K ("rows_in", none)))
  fd_is_pieceA : FuncData
  F_is_pieceA : FnP K "is_piece" s_is_pieceA (He.fAd K ("is_piece", none)) fd_is_pieceA
  g_is_pieceA : mg "is_piece" = some (.ref (He.fAd K ("is_piece", none)))
  fd_is_scriptA : FuncData
  F_is_scriptA : FnP K "is_script" s_is_scriptA (He.fAd K ("is_script", none)) fd_is_scriptA
  g_is_scriptA : mg "is_script" = some (.ref (He.fAd K ("is_script", none)))
  fd_is_right_overA : FuncData
  F_is_right_overA : FnP K "is_right_over" s_is_right_overA (He.fAd K ("is_right_over", none)) fd_is_right_overA
  g_is_right_overA : mg "is_right_over" = some (.ref (He.fAd K ("is_right_over", none)))
  fd_refuse_wrongA : FuncData
  F_refuse_wrongA : FnP K "refuse_wrong" s_refuse_wrongA (He.fAd K ("refuse_wrong", none)) fd_refuse_wrongA
  g_refuse_wrongA : mg "refuse_wrong" = some (.ref (He.fAd K ("refuse_wrong", none)))
  fd_made : FuncData
  F_made : FnP K "made" s_made (He.fAd K ("made", none)) fd_made
  g_made : mg "made" = some (.ref (He.fAd K ("made", none)))
  fd_doneA : FuncData
  F_doneA : FnP K "done" s_doneA (He.fAd K ("done", none)) fd_doneA
  g_doneA : mg "done" = some (.ref (He.fAd K ("done", none)))
  fd_priceA : FuncData
  F_priceA : FunD K "price" "price" (defArgs s_priceA) (defBody s_priceA) (defScope s_priceA) [] [("take", V.int 3), ("put", V.int 2)] (He.fAd K ("price", none)) fd_priceA
  g_priceA : mg "price" = some (.ref (He.fAd K ("price", none)))
  fd_cut_piece : FuncData
  F_cut_piece : FnP K "cut_piece" s_cut_piece (He.fAd K ("cut_piece", none)) fd_cut_piece
  g_cut_piece : mg "cut_piece" = some (.ref (He.fAd K ("cut_piece", none)))
  fd_part_of : FuncData
  F_part_of : FnP K "part_of" s_part_of (He.fAd K ("part_of", none)) fd_part_of
  g_part_of : mg "part_of" = some (.ref (He.fAd K ("part_of", none)))
  fd_joinedA : FuncData
  F_joinedA : FnP K "joined" s_joinedA (He.fAd K ("joined", none)) fd_joinedA
  g_joinedA : mg "joined" = some (.ref (He.fAd K ("joined", none)))
  fd_l_deck : FuncData
  F_l_deck : FnP K "_law_deck" s_l_deck (He.fAd K ("_law_deck", none)) fd_l_deck
  g_l_deck : mg "_law_deck" = some (.ref (He.fAd K ("_law_deck", none)))
  fd_l_mixed : FuncData
  F_l_mixed : FnP K "_law_mixed" s_l_mixed (He.fAd K ("_law_mixed", none)) fd_l_mixed
  g_l_mixed : mg "_law_mixed" = some (.ref (He.fAd K ("_law_mixed", none)))
  fd_l_draw : FuncData
  F_l_draw : FnP K "_law_draw" s_l_draw (He.fAd K ("_law_draw", none)) fd_l_draw
  g_l_draw : mg "_law_draw" = some (.ref (He.fAd K ("_law_draw", none)))
  fd_l_text : FuncData
  F_l_text : FnP K "_law_text" s_l_text (He.fAd K ("_law_text", none)) fd_l_text
  g_l_text : mg "_law_text" = some (.ref (He.fAd K ("_law_text", none)))
  fd_l_int : FuncData
  F_l_int : FnP K "_law_int" s_l_int (He.fAd K ("_law_int", none)) fd_l_int
  g_l_int : mg "_law_int" = some (.ref (He.fAd K ("_law_int", none)))
  fd_l_same : FuncData
  F_l_same : FnP K "_law_same" s_l_same (He.fAd K ("_law_same", none)) fd_l_same
  g_l_same : mg "_law_same" = some (.ref (He.fAd K ("_law_same", none)))
  fd_l_stock : FuncData
  F_l_stock : FnP K "_law_stock" s_l_stock (He.fAd K ("_law_stock", none)) fd_l_stock
  g_l_stock : mg "_law_stock" = some (.ref (He.fAd K ("_law_stock", none)))
  fd_l_lines : FuncData
  F_l_lines : FnP K "_law_lines" s_l_lines (He.fAd K ("_law_lines", none)) fd_l_lines
  g_l_lines : mg "_law_lines" = some (.ref (He.fAd K ("_law_lines", none)))
  fd_l_most : FuncData
  F_l_most : FnP K "_law_most" s_l_most (He.fAd K ("_law_most", none)) fd_l_most
  g_l_most : mg "_law_most" = some (.ref (He.fAd K ("_law_most", none)))
  fd_l_script : FuncData
  F_l_script : FnP K "_law_script" s_l_script (He.fAd K ("_law_script", none)) fd_l_script
  g_l_script : mg "_law_script" = some (.ref (He.fAd K ("_law_script", none)))
  fd_l_made : FuncData
  F_l_made : FnP K "_law_made" s_l_made (He.fAd K ("_law_made", none)) fd_l_made
  g_l_made : mg "_law_made" = some (.ref (He.fAd K ("_law_made", none)))
  fd_l_cost : FuncData
  F_l_cost : FnP K "_law_cost" s_l_cost (He.fAd K ("_law_cost", none)) fd_l_cost
  g_l_cost : mg "_law_cost" = some (.ref (He.fAd K ("_law_cost", none)))
  fd_l_is_lineA : FuncData
  F_l_is_lineA : FnP K "_law_is_line" s_l_is_lineA (He.fAd K ("_law_is_line", none)) fd_l_is_lineA
  g_l_is_lineA : mg "_law_is_line" = some (.ref (He.fAd K ("_law_is_line", none)))
  fd_l_sizeA : FuncData
  F_l_sizeA : FnP K "_law_size" s_l_sizeA (He.fAd K ("_law_size", none)) fd_l_sizeA
  g_l_sizeA : mg "_law_size" = some (.ref (He.fAd K ("_law_size", none)))
  fd_l_is_scriptA : FuncData
  F_l_is_scriptA : FnP K "_law_is_script" s_l_is_scriptA (He.fAd K ("_law_is_script", none)) fd_l_is_scriptA
  g_l_is_scriptA : mg "_law_is_script" = some (.ref (He.fAd K ("_law_is_script", none)))
  fd_l_fitsA : FuncData
  F_l_fitsA : FnP K "_law_fits" s_l_fitsA (He.fAd K ("_law_fits", none)) fd_l_fitsA
  g_l_fitsA : mg "_law_fits" = some (.ref (He.fAd K ("_law_fits", none)))
  fd_l_odd : FuncData
  F_l_odd : FnP K "_law_odd" s_l_odd (He.fAd K ("_law_odd", none)) fd_l_odd
  g_l_odd : mg "_law_odd" = some (.ref (He.fAd K ("_law_odd", none)))
  fd_l_bent : FuncData
  F_l_bent : FnP K "_law_bent" s_l_bent (He.fAd K ("_law_bent", none)) fd_l_bent
  g_l_bent : mg "_law_bent" = some (.ref (He.fAd K ("_law_bent", none)))
  fd_l_spoiled : FuncData
  F_l_spoiled : FnP K "_law_spoiled" s_l_spoiled (He.fAd K ("_law_spoiled", none)) fd_l_spoiled
  g_l_spoiled : mg "_law_spoiled" = some (.ref (He.fAd K ("_law_spoiled", none)))
  fd_l_done : FuncData
  F_l_done : FnP K "_law_done" s_l_done (He.fAd K ("_law_done", none)) fd_l_done
  g_l_done : mg "_law_done" = some (.ref (He.fAd K ("_law_done", none)))
  fd_l_priced : FuncData
  F_l_priced : FnP K "_law_priced" s_l_priced (He.fAd K ("_law_priced", none)) fd_l_priced
  g_l_priced : mg "_law_priced" = some (.ref (He.fAd K ("_law_priced", none)))
  fd_l_joins : FuncData
  F_l_joins : FnP K "_law_joins" s_l_joins (He.fAd K ("_law_joins", none)) fd_l_joins
  g_l_joins : mg "_law_joins" = some (.ref (He.fAd K ("_law_joins", none)))
  fd_l_kinds : FuncData
  F_l_kinds : FnP K "_law_kinds" s_l_kinds (He.fAd K ("_law_kinds", none)) fd_l_kinds
  g_l_kinds : mg "_law_kinds" = some (.ref (He.fAd K ("_law_kinds", none)))
  fd_law : FuncData
  F_law : FnP K "law" s_law (He.fAd K ("law", none)) fd_law
  z_ValueError : mg "ValueError" = none
  z_all : mg "all" = none
  z_bool : mg "bool" = none
  z_dict : mg "dict" = none
  z_int : mg "int" = none
  z_isinstance : mg "isinstance" = none
  z_len : mg "len" = none
  z_list : mg "list" = none
  z_max : mg "max" = none
  z_min : mg "min" = none
  z_ord : mg "ord" = none
  z_range : mg "range" = none
  z_str : mg "str" = none
  z_sum : mg "sum" = none
  z_tuple : mg "tuple" = none
  c_BARRED_SIGN : ∃ t, mg "BARRED_SIGN" = some (.int 37 t)
  c_MOST_ROWS : ∃ t, mg "MOST_ROWS" = some (.int 40 t)
  c_MOST_SIGNS : ∃ t, mg "MOST_SIGNS" = some (.int 40 t)
  c_PUT : ∃ t, mg "PUT" = some (.int 2 t)
  c_TAKE : ∃ t, mg "TAKE" = some (.int 3 t)
  gc_HouseError : mg "HouseError" = some (.ref (He.ga K "HouseError"))
  gc_NoScript : mg "NoScript" = some (.ref (He.ga K "NoScript"))
  gc_BadRow : mg "BadRow" = some (.ref (He.ga K "BadRow"))
  x_NoScript : PySem.W.excIn K (He.ga K "NoScript") He.veBase "ValueError.__new__" = true ∧ PySem.W.keepIn K (.ref (He.ga K "NoScript")) = true ∧ PySem.W.subIn K (.ref (He.ga K "NoScript")) (.type "BaseException") = some true ∧ PySem.W.typeIn K (.ref (He.ga K "NoScript")) = some (.type "type")
  more : Fw.Kinds37 K
section
variable {P : Program} {w : World} {K : PySem.W.Frag} {mg : Str → Option Value} {base : Heap}
theorem b_is_intA (T : Tx K mg) : Binds K T.fd_is_intA ["thing"] [] := T.F_is_intA.bindsN fun _ _ _ _ _ _ us hl => match us, hl with | [_], _ => rfl
theorem ok_is_intA (T : Tx K mg) : FnOk P w K mg base CX0 1 (He.fAd K ("is_int", none)) T.fd_is_intA ["thing"] (sp_is_intA K) := by
  refine T.F_is_intA.ok sc_is_intA (fun vs H Q E h => len_is_intA h) (fun cdv A outer s H vs Q E hr h => ⟨t_is_intA K, PSs.nox ?_, pure_is_intA h⟩)
  exact (pss_one (ps_ret (pe_and (pe_callB call_isi (by rfl) T.z_isinstance (by decide +kernel) (pa_cons (pv 0) (pa_cons (pe_bltn (v := .ty "int") (by rfl) T.z_int (by decide +kernel) rfl) pa_nil))) (pe_one (pe_not (pe_callB call_isi (by rfl) T.z_isinstance (by decide +kernel) (pa_cons (pv 0) (pa_cons (pe_bltn (v := .ty "bool") (by rfl) T.z_bool (by decide +kernel) rfl) pa_nil))))))))
theorem b_is_signA (T : Tx K mg) : Binds K T.fd_is_signA ["sign"] [] := T.F_is_signA.bindsN fun _ _ _ _ _ _ us hl => match us, hl with | [_], _ => rfl
theorem ok_is_signA (T : Tx K mg) : FnOk P w K mg base CX0 1 (He.fAd K ("is_sign", none)) T.fd_is_signA ["sign"] (sp_is_signA K) := by
  refine T.F_is_signA.ok sc_is_signA (fun vs H Q E h => len_is_signA h) (fun cdv A outer s H vs Q E hr h => ⟨t_is_signA K, PSs.nox ?_, pure_is_signA h⟩)
  exact (pss_one (ps_ret (pe_and (pe_chain op_le_str op_le_str pe_str (pv 0) pe_str) (pe_one (pe_cmpR op_ne (pe_callB call_ord (by rfl) T.z_ord (by decide +kernel) (pa_cons (pv 0) pa_nil)) (pe_glob (v := .int 37) (by rfl) T.c_BARRED_SIGN.choose_spec ⟨_, rfl⟩) (nomark _))))))
theorem b_is_textA (T : Tx K mg) : Binds K T.fd_is_textA ["thing"] [] := T.F_is_textA.bindsN fun _ _ _ _ _ _ us hl => match us, hl with | [_], _ => rfl
theorem ok_is_textA (T : Tx K mg) : FnOk P w K mg base CX0 2 (He.fAd K ("is_text", none)) T.fd_is_textA ["thing"] (sp_is_textA K) := by
  refine T.F_is_textA.ok sc_is_textA (fun vs H Q E h => len_is_textA h) (fun cdv A outer s H vs Q E hr h => ⟨t_is_textA K, PSs.nox ?_, pure_is_textA h⟩)
  exact (pss_one (ps_ret (pe_and (pe_callB call_isi (by rfl) T.z_isinstance (by decide +kernel) (pa_cons (pv 0) (pa_cons (pe_bltn (v := .ty "str") (by rfl) T.z_str (by decide +kernel) rfl) pa_nil))) (pe_one (pe_callB (cr_all rfl) (by rfl) T.z_all (by decide +kernel) (pa_cons (pe_lc (own := [("sign", 1)]) (g := (gName 1)) (tt := tYes) (te := (tCall (sp_is_signA K) [] E0 (tCons (tVar 1) tNil))) rfl sc_is_textA.nd (pi_str (pv 0)) (blkOk_by (own := [("sign", 1)]) (N := N_is_textA) (sc := defScope s_is_textA) (by decide +kernel)) (fun _ _ _ _ _ => (pg_name (i := 1) sc_is_textA.nd rfl (Or.inl rfl))) (fun _ _ _ _ _ => pts_nil) (fun _ _ _ _ _ => (pe_call (ok_is_signA T) (hr.mono (by decide)) (by rfl) T.g_is_signA T.F_is_signA.kp (b_is_signA T) .nil pass0 (pa_cons (pv 1) pa_nil)))) pa_nil))))))
theorem b_is_pairA (T : Tx K mg) : Binds K T.fd_is_pairA ["thing"] [] := T.F_is_pairA.bindsN fun _ _ _ _ _ _ us hl => match us, hl with | [_], _ => rfl
theorem ok_is_pairA (T : Tx K mg) : FnOk P w K mg base CX0 1 (He.fAd K ("is_pair", none)) T.fd_is_pairA ["thing"] (sp_is_pairA K) := by
  refine T.F_is_pairA.ok sc_is_pairA (fun vs H Q E h => len_is_pairA h) (fun cdv A outer s H vs Q E hr h => ⟨t_is_pairA K, PSs.nox ?_, pure_is_pairA h⟩)
  exact (pss_one (ps_ret (pe_and (pe_callB call_isi (by rfl) T.z_isinstance (by decide +kernel) (pa_cons (pv 0) (pa_cons (pe_bltn (v := .ty "tuple") (by rfl) T.z_tuple (by decide +kernel) rfl) pa_nil))) (pe_one (pe_cmpR op_eq (pe_callB call_len (by rfl) T.z_len PySem.boot_len (pa_cons (pv 0) pa_nil)) pe_int (nomark _))))))
theorem b_is_rowA (T : Tx K mg) : Binds K T.fd_is_rowA ["thing"] [] := T.F_is_rowA.bindsN fun _ _ _ _ _ _ us hl => match us, hl with | [_], _ => rfl
theorem ok_is_rowA (T : Tx K mg) : FnOk P w K mg base CX0 3 (He.fAd K ("is_row", none)) T.fd_is_rowA ["thing"] (sp_is_rowA K) := by
  refine T.F_is_rowA.ok sc_is_rowA (fun vs H Q E h => len_is_rowA h) (fun cdv A outer s H vs Q E hr h => ⟨t_is_rowA K, PSs.nox ?_, pure_is_rowA h⟩)
  exact (pss_one (ps_ret (pe_and (pe_call (ok_is_textA T) (hr.mono (by decide)) (by rfl) T.g_is_textA T.F_is_textA.kp (b_is_textA T) .nil pass0 (pa_cons (pv 0) pa_nil)) (pe_one (pe_cmpR op_le (pe_callB call_len (by rfl) T.z_len PySem.boot_len (pa_cons (pv 0) pa_nil)) (pe_glob (v := .int 40) (by rfl) T.c_MOST_SIGNS.choose_spec ⟨_, rfl⟩) (nomark _))))))
theorem b_are_putA (T : Tx K mg) : Binds K T.fd_are_putA ["thing"] [] := T.F_are_putA.bindsN fun _ _ _ _ _ _ us hl => match us, hl with | [_], _ => rfl
theorem ok_are_putA (T : Tx K mg) : FnOk P w K mg base CX0 4 (He.fAd K ("are_put", none)) T.fd_are_putA ["thing"] (sp_are_putA K) := by
  refine T.F_are_putA.ok sc_are_putA (fun vs H Q E h => len_are_putA h) (fun cdv A outer s H vs Q E hr h => ⟨t_are_putA K, PSs.nox ?_, pure_are_putA h⟩)
  exact (pss_one (ps_ret (pe_and (pe_callB call_isi (by rfl) T.z_isinstance (by decide +kernel) (pa_cons (pv 0) (pa_cons (pe_bltn (v := .ty "tuple") (by rfl) T.z_tuple (by decide +kernel) rfl) pa_nil))) (pe_and (pe_cmpR op_gt (pe_callB call_len (by rfl) T.z_len PySem.boot_len (pa_cons (pv 0) pa_nil)) pe_int (nomark _)) (pe_one (pe_callB (cr_all rfl) (by rfl) T.z_all (by decide +kernel) (pa_cons (pe_lc (own := [("row", 1)]) (g := (gName 1)) (tt := tYes) (te := (tCall (sp_is_rowA K) [] E0 (tCons (tVar 1) tNil))) rfl sc_are_putA.nd (pi_tup (pv 0)) (blkOk_by (own := [("row", 1)]) (N := N_are_putA) (sc := defScope s_are_putA) (by decide +kernel)) (fun _ _ _ _ _ => (pg_name (i := 1) sc_are_putA.nd rfl (Or.inl rfl))) (fun _ _ _ _ _ => pts_nil) (fun _ _ _ _ _ => (pe_call (ok_is_rowA T) (hr.mono (by decide)) (by rfl) T.g_is_rowA T.F_is_rowA.kp (b_is_rowA T) .nil pass0 (pa_cons (pv 1) pa_nil)))) pa_nil)))))))
theorem b_rows_in (T : Tx K mg) : Binds K T.fd_rows_in ["piece"] [] := T.F_rows_in.bindsN fun _ _ _ _ _ _ us hl => match us, hl with | [_], _ => rfl
theorem ok_rows_in (T : Tx K mg) : FnOk P w K mg base CX0 1 (He.fAd K ("rows_in", none)) T.fd_rows_in ["piece"] (sp_rows_in K) := by
  refine T.F_rows_in.ok sc_rows_in (fun vs H Q E h => len_rows_in h) (fun cdv A outer s H vs Q E hr h => ⟨t_rows_in K, PSs.nox ?_, pure_rows_in h⟩)
  exact (pss_one (ps_ret (pe_ifExp (pt_cmpR op_eq (pe_ix ix_seq (pv 0) pe_int (fun _ _ => rfl)) pe_str (nomark _)) (pe_callB call_len (by rfl) T.z_len PySem.boot_len (pa_cons (pe_ix ix_seq (pv 0) pe_int (fun _ _ => rfl)) pa_nil)) (pe_ix ix_seq (pv 0) pe_int (fun _ _ => rfl)))))
theorem b_is_pieceA (T : Tx K mg) : Binds K T.fd_is_pieceA ["thing"] [] := T.F_is_pieceA.bindsN fun _ _ _ _ _ _ us hl => match us, hl with | [_], _ => rfl
theorem ok_is_pieceA (T : Tx K mg) : FnOk P w K mg base CX0 5 (He.fAd K ("is_piece", none)) T.fd_is_pieceA ["thing"] (sp_is_pieceA K) := by
  refine T.F_is_pieceA.ok sc_is_pieceA (fun vs H Q E h => len_is_pieceA h) (fun cdv A outer s H vs Q E hr h => ⟨t_is_pieceA K, PSs.nox ?_, pure_is_pieceA h⟩)
  exact (pss_cons (ps_if (PW.pt (pw_or (pt_not (pt_val (pe_callB call_isi (by rfl) T.z_isinstance (by decide +kernel) (pa_cons (pv 0) (pa_cons (pe_bltn (v := .ty "tuple") (by rfl) T.z_tuple (by decide +kernel) rfl) pa_nil))))) (pw_or1 (pt_cmpR op_eq (pe_callB call_len (by rfl) T.z_len PySem.boot_len (pa_cons (pv 0) pa_nil)) pe_int (nomark _))))) (pss_one (ps_ret pe_bl)) pss_nil)
      (pss_cons (ps_if (pt_cmpR (op_eqS hr.units) (pe_ix ix_seq (pv 0) pe_int (fun _ _ => rfl)) pe_str (nomark _)) (pss_one (ps_ret (pe_and (pe_cmpR op_eq (pe_callB call_len (by rfl) T.z_len PySem.boot_len (pa_cons (pv 0) pa_nil)) pe_int (nomark _)) (pe_and (pe_call (ok_is_intA T) (hr.mono (by decide)) (by rfl) T.g_is_intA T.F_is_intA.kp (b_is_intA T) .nil pass0 (pa_cons (pe_ix ix_seq (pv 0) pe_int (fun _ _ => rfl)) pa_nil)) (pe_and (pe_call (ok_is_intA T) (hr.mono (by decide)) (by rfl) T.g_is_intA T.F_is_intA.kp (b_is_intA T) .nil pass0 (pa_cons (pe_ix ix_seq (pv 0) pe_int (fun _ _ => rfl)) pa_nil)) (pe_and (pe_cmpR op_ge (pe_ix ix_seq (pv 0) pe_int (fun _ _ => rfl)) pe_int (nomark _)) (pe_one (pe_cmpR op_ge (pe_ix ix_seq (pv 0) pe_int (fun _ _ => rfl)) pe_int (nomark _))))))))) pss_nil)
      (pss_one (ps_ret (pe_and (pe_cmpR (op_eqS hr.units) (pe_ix ix_seq (pv 0) pe_int (fun _ _ => rfl)) pe_str (nomark _)) (pe_and (pe_call (ok_is_pairA T) (hr.mono (by decide)) (by rfl) T.g_is_pairA T.F_is_pairA.kp (b_is_pairA T) .nil pass0 (pa_cons (pv 0) pa_nil)) (pe_one (pe_call (ok_are_putA T) (hr.mono (by decide)) (by rfl) T.g_are_putA T.F_are_putA.kp (b_are_putA T) .nil pass0 (pa_cons (pe_ix ix_seq (pv 0) pe_int (fun _ _ => rfl)) pa_nil)))))))))
theorem b_is_scriptA (T : Tx K mg) : Binds K T.fd_is_scriptA ["thing"] [] := T.F_is_scriptA.bindsN fun _ _ _ _ _ _ us hl => match us, hl with | [_], _ => rfl
theorem ok_is_scriptA (T : Tx K mg) : FnOk P w K mg base CX0 6 (He.fAd K ("is_script", none)) T.fd_is_scriptA ["thing"] (sp_is_scriptA K) := by
  refine T.F_is_scriptA.ok sc_is_scriptA (fun vs H Q E h => len_is_scriptA h) (fun cdv A outer s H vs Q E hr h => ⟨t_is_scriptA K, PSs.nox ?_, pure_is_scriptA h⟩)
  exact (pss_cons (ps_if (PW.pt (pw_or (pt_not (pt_val (pe_callB call_isi (by rfl) T.z_isinstance (by decide +kernel) (pa_cons (pv 0) (pa_cons (pe_bltn (v := .ty "tuple") (by rfl) T.z_tuple (by decide +kernel) rfl) pa_nil))))) (pw_or1 (pt_not (pt_val (pe_callB (cr_all rfl) (by rfl) T.z_all (by decide +kernel) (pa_cons (pe_lc (own := [("piece", 1)]) (g := (gName 1)) (tt := tYes) (te := (tCall (sp_is_pieceA K) [] E0 (tCons (tVar 1) tNil))) rfl sc_is_scriptA.nd (pi_tup (pv 0)) (blkOk_by (own := [("piece", 1)]) (N := N_is_scriptA) (sc := defScope s_is_scriptA) (by decide +kernel)) (fun _ _ _ _ _ => (pg_name (i := 1) sc_is_scriptA.nd rfl (Or.inl rfl))) (fun _ _ _ _ _ => pts_nil) (fun _ _ _ _ _ => (pe_call (ok_is_pieceA T) (hr.mono (by decide)) (by rfl) T.g_is_pieceA T.F_is_pieceA.kp (b_is_pieceA T) .nil pass0 (pa_cons (pv 1) pa_nil)))) pa_nil))))))) (pss_one (ps_ret pe_bl)) pss_nil)
      (pss_one (ps_ret (pe_cmpR op_le (pe_callB (cr_sum rfl) (by rfl) T.z_sum (by decide +kernel) (pa_cons (pe_lc (own := [("piece", 1)]) (g := (gName 1)) (tt := tYes) (te := (tCall (sp_rows_in K) [] E0 (tCons (tVar 1) tNil))) rfl sc_is_scriptA.nd (pi_tup (pv 0)) (blkOk_by (own := [("piece", 1)]) (N := N_is_scriptA) (sc := defScope s_is_scriptA) (by decide +kernel)) (fun _ _ _ _ _ => (pg_name (i := 1) sc_is_scriptA.nd rfl (Or.inl rfl))) (fun _ _ _ _ _ => pts_nil) (fun _ _ _ _ _ => (pe_call (ok_rows_in T) (hr.mono (by decide)) (by rfl) T.g_rows_in T.F_rows_in.kp (b_rows_in T) .nil pass0 (pa_cons (pv 1) pa_nil)))) pa_nil)) (pe_glob (v := .int 40) (by rfl) T.c_MOST_ROWS.choose_spec ⟨_, rfl⟩) (nomark _)))))
theorem b_is_right_overA (T : Tx K mg) : Binds K T.fd_is_right_overA ["base", "thing"] [] := T.F_is_right_overA.bindsN fun _ _ _ _ _ _ us hl => match us, hl with | [_, _], _ => rfl
theorem ok_is_right_overA (T : Tx K mg) : FnOk P w K mg base CX0 7 (He.fAd K ("is_right_over", none)) T.fd_is_right_overA ["base", "thing"] (sp_is_right_overA K) := by
  refine T.F_is_right_overA.ok sc_is_right_overA (fun vs H Q E h => len_is_right_overA h) (fun cdv A outer s H vs Q E hr h => ⟨t_is_right_overA K, PSs.nox ?_, pure_is_right_overA h⟩)
  exact (pss_cons (ps_if (pt_not (pt_val (pe_call (ok_is_scriptA T) (hr.mono (by decide)) (by rfl) T.g_is_scriptA T.F_is_scriptA.kp (b_is_scriptA T) .nil pass0 (pa_cons (pv 1) pa_nil)))) (pss_one (ps_ret pe_bl)) pss_nil)
      (pss_one (ps_ret (pe_callB (cr_all rfl) (by rfl) T.z_all (by decide +kernel) (pa_cons (pe_lc (own := [("piece", 2)]) (g := (gName 2)) (tt := tYes) (te := (tOrV (tOp rEq (tOp (rIx K) (tVar 2) (tC (.int 0))) (tC (.str "put"))) (tOp rLeI (tOp rAddI (tOp (rIx K) (tVar 2) (tC (.int 1))) (tOp (rIx K) (tVar 2) (tC (.int 2)))) (tCB (fLen K) (tCons (tVar 0) tNil))))) rfl sc_is_right_overA.nd (pi_tup (pv 1)) (blkOk_by (own := [("piece", 2)]) (N := N_is_right_overA) (sc := defScope s_is_right_overA) (by decide +kernel)) (fun _ _ _ _ _ => (pg_name (i := 2) sc_is_right_overA.nd rfl (Or.inl rfl))) (fun _ _ _ _ _ => pts_nil) (fun _ _ _ _ _ => (pe_or (pe_cmpR op_eq (pe_ix ix_seq (pv 2) pe_int (fun _ _ => rfl)) pe_str (nomark _)) (pe_one (pe_cmpR op_le (pe_op op_add (pe_ix ix_seq (pv 2) pe_int (fun _ _ => rfl)) (pe_ix ix_seq (pv 2) pe_int (fun _ _ => rfl))) (pe_callB call_len (by rfl) T.z_len PySem.boot_len (pa_cons (pv 0) pa_nil)) (nomark _)))))) pa_nil)))))
theorem b_refuse_wrongA (T : Tx K mg) : Binds K T.fd_refuse_wrongA ["base", "thing"] [] := T.F_refuse_wrongA.bindsN fun _ _ _ _ _ _ us hl => match us, hl with | [_, _], _ => rfl
theorem ok_refuse_wrongA (T : Tx K mg) : FnOk P w K mg base (L2.CX P w) 8 (He.fAd K ("refuse_wrong", none)) T.fd_refuse_wrongA ["base", "thing"] (sp_refuse_wrongA K) := by
  refine T.F_refuse_wrongA.ok (CX := L2.CX P w) sc_refuse_wrongA (fun vs H Q E h => len_refuse_wrongA h) (fun cdv A outer s H vs Q E hr h => ⟨t_refuse_wrongA K E, ?_, pure_refuse_wrongA h⟩)
  exact (pss_one (ps_if (pt_not (pt_val (pe_call (ok_is_right_overA T) (hr.mono (by decide)) (by rfl) T.g_is_right_overA T.F_is_right_overA.kp (b_is_right_overA T) .nil pass0 (pa_cons (pv 0) (pa_cons (pv 1) pa_nil))))) (pss_one (ps_raise rfl (takes_of rfl rfl rfl rfl) (pmk_own PySem.F.excBase_ValueError T.x_NoScript.1 T.gc_NoScript T.x_NoScript.2.1 (raises_own T.x_NoScript.2.2.1 T.x_NoScript.2.2.2) (by exact rfl)))) pss_nil))
theorem b_made (T : Tx K mg) : Binds K T.fd_made ["base", "script"] [] := T.F_made.bindsN fun _ _ _ _ _ _ us hl => match us, hl with | [_, _], _ => rfl
theorem ok_made (T : Tx K mg) : FnOk P w K mg base CX0 1 (He.fAd K ("made", none)) T.fd_made ["base", "script"] (sp_made K) := by
  refine T.F_made.ok sc_made (fun vs H Q E h => len_made h) (fun cdv A outer s H vs Q E hr h => ⟨t_made K, PSs.nox ?_, pure_made h⟩)
  exact (pss_cons (ps_set (i := 2) sc_made.nd rfl (Or.inl rfl) (pe_lst pa_nil))
      (pss_cons (ps_for PassesOwn.never rfl (pi_tup (pv 1)) (pg_name (i := 3) sc_made.nd rfl (Or.inl rfl)) (pss_one (ps_expr (pe_bm PySem.F.plainAttrs_list PySem.F.slot_list_extend PySem.F.type_list_extend mt_extendA (pv 2) (pa_cons (pe_ifExp (pt_cmpR op_eq (pe_ix ix_seq (pv 3) pe_int (fun _ _ => rfl)) pe_str (nomark _)) (pe_ix ix_seq (pv 3) pe_int (fun _ _ => rfl)) (pe_slice sl_tupA (pv 0) (po_some (pe_ix ix_seq (pv 3) pe_int (fun _ _ => rfl))) (po_some (pe_op op_add (pe_ix ix_seq (pv 3) pe_int (fun _ _ => rfl)) (pe_ix ix_seq (pv 3) pe_int (fun _ _ => rfl)))))) pa_nil)))))
      (pss_one (ps_ret (pe_callTy call_tuple_of (by rfl) T.z_tuple (by decide +kernel) (pa_cons (pv 2) pa_nil))))))
theorem b_doneA (T : Tx K mg) : Binds K T.fd_doneA ["base", "script"] [] := T.F_doneA.bindsN fun _ _ _ _ _ _ us hl => match us, hl with | [_, _], _ => rfl
theorem ok_doneA (T : Tx K mg) : FnOk P w K mg base (L2.CX P w) 9 (He.fAd K ("done", none)) T.fd_doneA ["base", "script"] (sp_doneA K) := by
  refine T.F_doneA.ok (CX := L2.CX P w) sc_doneA (fun vs H Q E h => len_doneA h) (fun cdv A outer s H vs Q E hr h => ⟨t_doneA K E, ?_, pure_doneA h⟩)
  exact (pss_cons (ps_expr (pe_callS (ok_refuse_wrongA T) (hr.mono (by decide)) (by rfl) T.g_refuse_wrongA T.F_refuse_wrongA.kp (b_refuse_wrongA T) (fun σ => passAt (W := fun cls d _ H' => E cls d H') (takes_of rfl rfl rfl rfl) σ) (pa_cons (pv 0) (pa_cons (pv 1) pa_nil))))
      (pss_one (ps_ret (pe_call (ok_made T) (hr.mono (by decide)) (by rfl) T.g_made T.F_made.kp (b_made T) .nil pass0 (pa_cons (pv 0) (pa_cons (pv 1) pa_nil))))))
theorem b_priceA (T : Tx K mg) : ∃ ds, Vals [V.int 3, V.int 2] ds ∧ Binds K T.fd_priceA ["script", "take", "put"] ds := T.F_priceA.binds0 1 (by simp) rfl fun _ _ _ _ _ _ us ks hu hk => match us, ks, hu, hk with | [_], [_, _], _, _ => ⟨_, _, _, _, _, _, rfl, rfl, _, _, _, _, _, _, rfl, rfl, rfl⟩
theorem ok_priceA (T : Tx K mg) : FnOk P w K mg base (L2.CX P w) 7 (He.fAd K ("price", none)) T.fd_priceA ["script", "take", "put"] (sp_priceA K) := by
  refine T.F_priceA.ok (CX := L2.CX P w) sc_priceA (fun vs H Q E h => len_priceA h) (fun cdv A outer s H vs Q E hr h => ⟨t_priceA K E, ?_, pure_priceA h⟩)
  exact (pss_cons (ps_if (pt_not (pt_val (pe_call (ok_is_scriptA T) (hr.mono (by decide)) (by rfl) T.g_is_scriptA T.F_is_scriptA.kp (b_is_scriptA T) .nil pass0 (pa_cons (pv 0) pa_nil)))) (pss_one (ps_raise rfl (takes_of rfl rfl rfl rfl) (pmk_own PySem.F.excBase_ValueError T.x_NoScript.1 T.gc_NoScript T.x_NoScript.2.1 (raises_own T.x_NoScript.2.2.1 T.x_NoScript.2.2.2) (by exact rfl)))) pss_nil)
      (pss_one (ps_ret (pe_callB (cr_sum rfl) (by rfl) T.z_sum (by decide +kernel) (pa_cons (pe_lc (own := [("piece", 3)]) (g := (gName 3)) (tt := tYes) (te := (tIf (tTest (tOp rEq (tOp (rIx K) (tVar 3) (tC (.int 0))) (tC (.str "put")))) (tOp rMulI (tVar 2) (tCall (sp_rows_in K) [] E0 (tCons (tVar 3) tNil))) (tVar 1))) rfl sc_priceA.nd (pi_tup (pv 0)) (blkOk_by (own := [("piece", 3)]) (N := N_priceA) (sc := defScope s_priceA) (by decide +kernel)) (fun _ _ _ _ _ => (pg_name (i := 3) sc_priceA.nd rfl (Or.inl rfl))) (fun _ _ _ _ _ => pts_nil) (fun _ _ _ _ _ => (pe_ifExp (pt_cmpR op_eq (pe_ix ix_seq (pv 3) pe_int (fun _ _ => rfl)) pe_str (nomark _)) (pe_op op_mul (pv 2) (pe_call (ok_rows_in T) (hr.mono (by decide)) (by rfl) T.g_rows_in T.F_rows_in.kp (b_rows_in T) .nil pass0 (pa_cons (pv 3) pa_nil))) (pv 1)))) pa_nil)))))
theorem b_cut_piece (T : Tx K mg) : Binds K T.fd_cut_piece ["piece", "begin", "end"] [] := T.F_cut_piece.bindsN fun _ _ _ _ _ _ us hl => match us, hl with | [_, _, _], _ => rfl
theorem ok_cut_piece (T : Tx K mg) : FnOk P w K mg base CX0 1 (He.fAd K ("cut_piece", none)) T.fd_cut_piece ["piece", "begin", "end"] (sp_cut_piece K) := by
  refine T.F_cut_piece.ok sc_cut_piece (fun vs H Q E h => len_cut_piece h) (fun cdv A outer s H vs Q E hr h => ⟨t_cut_piece K, PSs.nox ?_, pure_cut_piece h⟩)
  exact (pss_cons (ps_if (pt_cmpR op_eq (pe_ix ix_seq (pv 0) pe_int (fun _ _ => rfl)) pe_str (nomark _)) (pss_one (ps_ret (pe_tup (pa_cons pe_str (pa_cons (pe_slice sl_tupA (pe_ix ix_seq (pv 0) pe_int (fun _ _ => rfl)) (po_some (pv 1)) (po_some (pv 2))) pa_nil))))) pss_nil)
      (pss_one (ps_ret (pe_tup (pa_cons pe_str (pa_cons (pe_op op_add (pe_ix ix_seq (pv 0) pe_int (fun _ _ => rfl)) (pv 1)) (pa_cons (pe_op op_sub (pv 2) (pv 1)) pa_nil)))))))
theorem b_part_of (T : Tx K mg) : Binds K T.fd_part_of ["script", "begin", "end"] [] := T.F_part_of.bindsN fun _ _ _ _ _ _ us hl => match us, hl with | [_, _, _], _ => rfl
theorem ok_part_of (T : Tx K mg) : FnOk P w K mg base CX0 2 (He.fAd K ("part_of", none)) T.fd_part_of ["script", "begin", "end"] (sp_part_of K) := by
  refine T.F_part_of.ok sc_part_of (fun vs H Q E h => len_part_of h) (fun cdv A outer s H vs Q E hr h => ⟨t_part_of K, PSs.nox ?_, pure_part_of h⟩)
  exact (pss_cons (ps_set (i := 3) sc_part_of.nd rfl (Or.inl rfl) (pe_lst pa_nil))
      (pss_cons (ps_set (i := 4) sc_part_of.nd rfl (Or.inl rfl) pe_int)
      (pss_cons (ps_for PassesOwn.never rfl (pi_tup (pv 0)) (pg_name (i := 5) sc_part_of.nd rfl (Or.inl rfl)) (pss_cons (ps_set (i := 6) sc_part_of.nd rfl (Or.inl rfl) (pe_op op_add (pv 4) (pe_call (ok_rows_in T) (hr.mono (by decide)) (by rfl) T.g_rows_in T.F_rows_in.kp (b_rows_in T) .nil pass0 (pa_cons (pv 5) pa_nil))))
      (pss_cons (ps_par (i := 7) (j := 8) (by rfl) sc_part_of.nd rfl rfl (by decide) rfl rfl (pa_cons (pe_callB (call_max2 rfl) (by rfl) T.z_max (by decide +kernel) (pa_cons (pv 1) (pa_cons (pv 4) pa_nil))) (pa_cons (pe_callB (call_min2 rfl) (by rfl) T.z_min (by decide +kernel) (pa_cons (pv 2) (pa_cons (pv 6) pa_nil))) pa_nil)) (by rfl))
      (pss_cons (ps_if (pt_cmpR op_lt (pv 7) (pv 8) (nomark _)) (pss_one (ps_expr (pe_bm PySem.F.plainAttrs_list PySem.F.slot_list_append PySem.F.type_list_append mt_append (pv 3) (pa_cons (pe_call (ok_cut_piece T) (hr.mono (by decide)) (by rfl) T.g_cut_piece T.F_cut_piece.kp (b_cut_piece T) .nil pass0 (pa_cons (pv 5) (pa_cons (pe_op op_sub (pv 7) (pv 4)) (pa_cons (pe_op op_sub (pv 8) (pv 4)) pa_nil)))) pa_nil)))) pss_nil)
      (pss_one (ps_set (i := 4) sc_part_of.nd rfl (Or.inl rfl) (pv 6)))))))
      (pss_one (ps_ret (pv 3))))))
theorem b_joinedA (T : Tx K mg) : Binds K T.fd_joinedA ["base", "one", "other"] [] := T.F_joinedA.bindsN fun _ _ _ _ _ _ us hl => match us, hl with | [_, _, _], _ => rfl
theorem ok_joinedA (T : Tx K mg) : FnOk P w K mg base (L2.CX P w) 9 (He.fAd K ("joined", none)) T.fd_joinedA ["base", "one", "other"] (sp_joinedA K) := by
  refine T.F_joinedA.ok (CX := L2.CX P w) sc_joinedA (fun vs H Q E h => len_joinedA h) (fun cdv A outer s H vs Q E hr h => ⟨t_joinedA K E, ?_, pure_joinedA h⟩)
  exact (pss_cons (ps_expr (pe_callS (ok_refuse_wrongA T) (hr.mono (by decide)) (by rfl) T.g_refuse_wrongA T.F_refuse_wrongA.kp (b_refuse_wrongA T) (fun σ => passAt (W := fun cls d _ H' => E cls d H') (takes_of rfl rfl rfl rfl) σ) (pa_cons (pv 0) (pa_cons (pv 1) pa_nil))))
      (pss_cons (ps_expr (pe_callS (ok_refuse_wrongA T) (hr.mono (by decide)) (by rfl) T.g_refuse_wrongA T.F_refuse_wrongA.kp (b_refuse_wrongA T) (fun σ => passAt (W := fun cls d _ H' => E cls d H') (takes_of rfl rfl rfl rfl) σ) (pa_cons (pe_call (ok_made T) (hr.mono (by decide)) (by rfl) T.g_made T.F_made.kp (b_made T) .nil pass0 (pa_cons (pv 0) (pa_cons (pv 1) pa_nil))) (pa_cons (pv 2) pa_nil))))
      (pss_cons (ps_set (i := 3) sc_joinedA.nd rfl (Or.inl rfl) (pe_lst pa_nil))
      (pss_cons (ps_for (passes_of rfl) rfl (pi_tup (pv 2)) (pg_name (i := 4) sc_joinedA.nd rfl (Or.inl rfl)) (pss_one (ps_if (pt_cmpR op_eq (pe_ix ix_seq (pv 4) pe_int (fun _ _ => rfl)) pe_str (nomark _)) (pss_one (ps_expr (pe_bm PySem.F.plainAttrs_list PySem.F.slot_list_append PySem.F.type_list_append mt_append (pv 3) (pa_cons (pv 4) pa_nil)))) (pss_one (ps_expr (pe_bm PySem.F.plainAttrs_list PySem.F.slot_list_extend PySem.F.type_list_extend mt_extendA (pv 3) (pa_cons (pe_call (ok_part_of T) (hr.mono (by decide)) (by rfl) T.g_part_of T.F_part_of.kp (b_part_of T) .nil pass0 (pa_cons (pv 1) (pa_cons (pe_ix ix_seq (pv 4) pe_int (fun _ _ => rfl)) (pa_cons (pe_op op_add (pe_ix ix_seq (pv 4) pe_int (fun _ _ => rfl)) (pe_ix ix_seq (pv 4) pe_int (fun _ _ => rfl))) pa_nil)))) pa_nil)))))))
      (pss_one (ps_ret (pe_callTy call_tuple_of (by rfl) T.z_tuple (by decide +kernel) (pa_cons (pv 3) pa_nil))))))))
theorem b_l_deck (T : Tx K mg) : Binds K T.fd_l_deck ["_law_script_here"] [] := T.F_l_deck.bindsN fun _ _ _ _ _ _ us hl => match us, hl with | [_], _ => rfl
theorem ok_l_deck (T : Tx K mg) : FnOk P w K mg base CX0 1 (He.fAd K ("_law_deck", none)) T.fd_l_deck ["_law_script_here"] (sp_l_deck K) := by
  refine T.F_l_deck.ok sc_l_deck (fun vs H Q E h => len_l_deck h) (fun cdv A outer s H vs Q E hr h => ⟨t_l_deck K, PSs.nox ?_, pure_l_deck h⟩)
  exact (pss_one (ps_ret (pe_lst (pa_cons (pe_callTy call_list_of (by rfl) T.z_list (by decide +kernel) (pa_cons (pv 0) pa_nil)) (pa_cons pe_int (pa_cons pe_int (pa_cons pe_int pa_nil)))))))
theorem b_l_mixed (T : Tx K mg) : Binds K T.fd_l_mixed ["_law_cell", "_law_turn"] [] := T.F_l_mixed.bindsN fun _ _ _ _ _ _ us hl => match us, hl with | [_, _], _ => rfl
theorem ok_l_mixed (T : Tx K mg) : FnOk P w K mg base CX0 1 (He.fAd K ("_law_mixed", none)) T.fd_l_mixed ["_law_cell", "_law_turn"] (sp_l_mixed K) := by
  refine T.F_l_mixed.ok sc_l_mixed (fun vs H Q E h => len_l_mixed h) (fun cdv A outer s H vs Q E hr h => ⟨t_l_mixed K, PSs.nox ?_, pure_l_mixed h⟩)
  exact (pss_one (ps_ret (pe_op op_mod (pe_op op_pow (pe_op op_add (pe_op op_add (pe_op op_mod (pv 0) pe_int) (pe_op op_mul (pv 1) pe_int)) pe_int) pe_int) pe_int)))
theorem b_l_draw (T : Tx K mg) : Binds K T.fd_l_draw ["_law_deck_here", "_law_many"] [] := T.F_l_draw.bindsN fun _ _ _ _ _ _ us hl => match us, hl with | [_, _], _ => rfl
theorem ok_l_draw (T : Tx K mg) : FnOk P w K mg base CX0 2 (He.fAd K ("_law_draw", none)) T.fd_l_draw ["_law_deck_here", "_law_many"] (sp_l_draw K) := by
  refine T.F_l_draw.ok sc_l_draw (fun vs H Q E h => len_l_draw h) (fun cdv A outer s H vs Q E hr h => ⟨t_l_draw K, PSs.nox ?_, pure_l_draw h⟩)
  exact (pss_cons (ps_set (i := 2) sc_l_draw.nd rfl (Or.inl rfl) (pe_ix ix_seq (pv 0) pe_int (fun _ _ => rfl)))
      (pss_cons (ps_asg (pe_op op_add (pe_ix ix_seq (pv 0) pe_int (fun _ _ => rfl)) pe_int) (pg_sub (pv 0) pe_int set_list))
      (pss_cons (ps_if (PW.pt (pw_and (pt_cmpR op_eq (pe_ix ix_seq (pv 0) pe_int (fun _ _ => rfl)) pe_int (nomark _)) (pw_and1 (pt_cmpR op_lt (pe_ix ix_seq (pv 0) pe_int (fun _ _ => rfl)) (pe_callB call_len (by rfl) T.z_len PySem.boot_len (pa_cons (pv 2) pa_nil)) (nomark _))))) (pss_cons (ps_asg (pe_op op_add (pe_ix ix_seq (pv 0) pe_int (fun _ _ => rfl)) pe_int) (pg_sub (pv 0) pe_int set_list))
      (pss_cons (ps_if (pt_cmpR op_lt (pe_ix ix_seq (pv 2) (pe_op op_sub (pe_ix ix_seq (pv 0) pe_int (fun _ _ => rfl)) pe_int) (fun _ _ => rfl)) (pe_op op_pow pe_int pe_int) (nomark _)) (pss_one (ps_ret (pe_op op_mod (pe_call (ok_l_mixed T) (hr.mono (by decide)) (by rfl) T.g_l_mixed T.F_l_mixed.kp (b_l_mixed T) .nil pass0 (pa_cons (pe_ix ix_seq (pv 2) (pe_op op_sub (pe_ix ix_seq (pv 0) pe_int (fun _ _ => rfl)) pe_int) (fun _ _ => rfl)) (pa_cons (pe_ix ix_seq (pv 0) pe_int (fun _ _ => rfl)) pa_nil))) (pv 1)))) pss_nil)
      (pss_one (ps_asg (pe_ix ix_seq (pv 2) (pe_op op_sub (pe_ix ix_seq (pv 0) pe_int (fun _ _ => rfl)) pe_int) (fun _ _ => rfl)) (pg_sub (pv 0) pe_int set_list))))) pss_nil)
      (pss_cons (ps_if (pt_cmpR op_gt (pe_ix ix_seq (pv 0) pe_int (fun _ _ => rfl)) pe_int (nomark _)) (pss_cons (ps_set (i := 3) sc_l_draw.nd rfl (Or.inl rfl) (pe_op op_mod (pe_ix ix_seq (pv 0) pe_int (fun _ _ => rfl)) (pv 1)))
      (pss_cons (ps_asg (pe_op op_fdivW (pe_ix ix_seq (pv 0) pe_int (fun _ _ => rfl)) (pv 1)) (pg_sub (pv 0) pe_int set_list))
      (pss_one (ps_ret (pv 3))))) pss_nil)
      (pss_cons (ps_set (i := 4) sc_l_draw.nd rfl (Or.inl rfl) (pe_op op_mul (pe_ix ix_seq (pv 0) pe_int (fun _ _ => rfl)) pe_int))
      (pss_cons (ps_if (pt_cmpR op_gt (pe_callB call_len (by rfl) T.z_len PySem.boot_len (pa_cons (pv 2) pa_nil)) pe_int (nomark _)) (pss_one (ps_set (i := 4) sc_l_draw.nd rfl (Or.inl rfl) (pe_op op_add (pv 4) (pe_op op_mod (pe_ix ix_seq (pv 2) (pe_op op_mod (pe_op op_mul (pe_ix ix_seq (pv 0) pe_int (fun _ _ => rfl)) pe_int) (pe_callB call_len (by rfl) T.z_len PySem.boot_len (pa_cons (pv 2) pa_nil))) (fun _ _ => rfl)) pe_int)))) pss_nil)
      (pss_one (ps_ret (pe_op op_mod (pe_call (ok_l_mixed T) (hr.mono (by decide)) (by rfl) T.g_l_mixed T.F_l_mixed.kp (b_l_mixed T) .nil pass0 (pa_cons (pv 4) (pa_cons (pe_ix ix_seq (pv 0) pe_int (fun _ _ => rfl)) pa_nil))) (pv 1))))))))))
theorem b_l_text (T : Tx K mg) : Binds K T.fd_l_text ["_law_deck_here", "_law_size_here"] [] := T.F_l_text.bindsN fun _ _ _ _ _ _ us hl => match us, hl with | [_, _], _ => rfl
theorem ok_l_text (T : Tx K mg) : FnOk P w K mg base CX0 3 (He.fAd K ("_law_text", none)) T.fd_l_text ["_law_deck_here", "_law_size_here"] (sp_l_text K) := by
  refine T.F_l_text.ok sc_l_text (fun vs H Q E h => len_l_text h) (fun cdv A outer s H vs Q E hr h => ⟨t_l_text K, PSs.nox ?_, pure_l_text h⟩)
  exact (pss_cons (ps_set (i := 2) sc_l_text.nd rfl (Or.inr rfl) pe_str)
      (pss_cons (ps_if (pt_cmpR op_eq (pe_call (ok_l_draw T) (hr.mono (by decide)) (by rfl) T.g_l_draw T.F_l_draw.kp (b_l_draw T) .nil pass0 (pa_cons (pv 0) (pa_cons pe_int pa_nil))) pe_int (nomark _)) (pss_one (ps_set (i := 2) sc_l_text.nd rfl (Or.inr rfl) pe_str)) pss_nil)
      (pss_one (ps_ret (pe_join pe_str (pe_lc (own := [("_law_k", 3)]) (g := (gName 3)) (tt := tYes) (te := (tOp (rIx K) (tVar 2) (tCall (sp_l_draw K) [] E0 (tCons (tVar 0) (tCons (tCB (fLen K) (tCons (tVar 2) tNil)) tNil))))) rfl sc_l_text.nd (pi_range1 (by rfl) T.z_range (pa_cons (pe_call (ok_l_draw T) (hr.mono (by decide)) (by rfl) T.g_l_draw T.F_l_draw.kp (b_l_draw T) .nil pass0 (pa_cons (pv 0) (pa_cons (pe_op op_add (pv 1) pe_int) pa_nil))) pa_nil)) (blkOk_by (own := [("_law_k", 3)]) (N := N_l_text) (sc := defScope s_l_text) (by decide +kernel)) (fun _ _ _ _ _ => (pg_name (i := 3) sc_l_text.nd rfl (Or.inl rfl))) (fun _ _ _ _ _ => pts_nil) (fun _ _ _ _ _ => (pe_ix ix_seq (pv 2) (pe_call (ok_l_draw T) (hr.mono (by decide)) (by rfl) T.g_l_draw T.F_l_draw.kp (b_l_draw T) .nil pass0 (pa_cons (pv 0) (pa_cons (pe_callB call_len (by rfl) T.z_len PySem.boot_len (pa_cons (pv 2) pa_nil)) pa_nil))) (fun _ _ => rfl)))))))))
theorem b_l_int (T : Tx K mg) : Binds K T.fd_l_int ["_law_thing"] [] := T.F_l_int.bindsN fun _ _ _ _ _ _ us hl => match us, hl with | [_], _ => rfl
theorem ok_l_int (T : Tx K mg) : FnOk P w K mg base CX0 1 (He.fAd K ("_law_int", none)) T.fd_l_int ["_law_thing"] (sp_l_intA K) := by
  refine T.F_l_int.ok sc_l_int (fun vs H Q E h => len_l_intA h) (fun cdv A outer s H vs Q E hr h => ⟨t_l_int K, PSs.nox ?_, pure_l_intA h⟩)
  exact (pss_one (ps_ret (pe_and (pe_callB call_isi (by rfl) T.z_isinstance (by decide +kernel) (pa_cons (pv 0) (pa_cons (pe_bltn (v := .ty "int") (by rfl) T.z_int (by decide +kernel) rfl) pa_nil))) (pe_one (pe_not (pe_callB call_isi (by rfl) T.z_isinstance (by decide +kernel) (pa_cons (pv 0) (pa_cons (pe_bltn (v := .ty "bool") (by rfl) T.z_bool (by decide +kernel) rfl) pa_nil))))))))
theorem b_l_same (T : Tx K mg) : Binds K T.fd_l_same ["_law_found", "_law_due"] [] := T.F_l_same.bindsN fun _ _ _ _ _ _ us hl => match us, hl with | [_, _], _ => rfl
theorem ok_l_int0 (T : Tx K mg) : FnOk P w K mg base CX0 1 (He.fAd K ("_law_int", none)) T.fd_l_int ["_law_thing"] (sp_l_int K) := (ok_l_int T).imp fun vs H Q E h => by
  obtain ⟨i, rfl, q⟩ := h
  exact int_weak q
theorem ok_same2N (T : Tx K mg) : ∀ n : Nat, FnOk P w K mg base CX0 (n + 2) (He.fAd K ("_law_same", none)) T.fd_l_same ["_law_found", "_law_due"] (sp_same2N K n)
  | 0 => T.F_l_same.ok sc_l_same (fun vs H Q E h => len_same2N h) (fun cdv A outer s H vs Q E hr h => by
      obtain ⟨_, _, _, h, _⟩ := h
      exact h.elim)
  | n + 1 => by
    have G : FnOk P w K mg base CX0 (n + 2) (He.fAd K ("_law_same", none)) T.fd_l_same ["_law_found", "_law_due"] (sp_same2N K n) := ok_same2N T n
    refine T.F_l_same.ok sc_l_same (fun vs H Q E h => len_same2N h) (fun cdv A outer s H vs Q E hr h => ⟨t_l_same2 K n, PSs.nox ?_, pure_l_same2 h⟩)
    exact (pss_cons (ps_if (pt_val (pe_callB call_isiT (by rfl) T.z_isinstance (by decide +kernel) (pa_cons (pv 1) (pa_cons (pe_tup (pa_cons (pe_bltn (v := .ty "tuple") (by rfl) T.z_tuple (by decide +kernel) rfl) (pa_cons (pe_bltn (v := .ty "list") (by rfl) T.z_list (by decide +kernel) rfl) pa_nil))) pa_nil)))) (pss_cons (ps_if (PW.pt (pw_or (pt_cmpR op_ne (pe_callB call_isi (by rfl) T.z_isinstance (by decide +kernel) (pa_cons (pv 1) (pa_cons (pe_bltn (v := .ty "tuple") (by rfl) T.z_tuple (by decide +kernel) rfl) pa_nil))) (pe_callB call_isi (by rfl) T.z_isinstance (by decide +kernel) (pa_cons (pv 0) (pa_cons (pe_bltn (v := .ty "tuple") (by rfl) T.z_tuple (by decide +kernel) rfl) pa_nil))) (nomark _)) (pw_or1 (pt_cmpR op_ne (pe_callB call_isi (by rfl) T.z_isinstance (by decide +kernel) (pa_cons (pv 1) (pa_cons (pe_bltn (v := .ty "list") (by rfl) T.z_list (by decide +kernel) rfl) pa_nil))) (pe_callB call_isi (by rfl) T.z_isinstance (by decide +kernel) (pa_cons (pv 0) (pa_cons (pe_bltn (v := .ty "list") (by rfl) T.z_list (by decide +kernel) rfl) pa_nil))) (nomark _))))) (pss_one (ps_ret pe_bl)) pss_nil)
      (pss_cons (ps_if (pt_cmpR op_ne (pe_callB call_len (by rfl) T.z_len PySem.boot_len (pa_cons (pv 0) pa_nil)) (pe_callB call_len (by rfl) T.z_len PySem.boot_len (pa_cons (pv 1) pa_nil)) (nomark _)) (pss_one (ps_ret pe_bl)) pss_nil)
      (pss_cons (ps_for PassesOwn.never rfl (pi_range1 (by rfl) T.z_range (pa_cons (pe_callB call_len (by rfl) T.z_len PySem.boot_len (pa_cons (pv 1) pa_nil)) pa_nil)) (pg_name (i := 2) sc_l_same.nd rfl (Or.inl rfl)) (pss_one (ps_if (pt_not (pt_val (pe_call G hr (by rfl) T.g_l_same T.F_l_same.kp (b_l_same T) .nil pass0 (pa_cons (pe_ix ix_seq (pv 0) (pv 2) (fun _ _ => rfl)) (pa_cons (pe_ix ix_seq (pv 1) (pv 2) (fun _ _ => rfl)) pa_nil))))) (pss_one (ps_ret pe_bl)) pss_nil)))
      (pss_one (ps_ret pe_bl))))) pss_nil)
      (pss_cons (ps_if (pt_val (pe_callB call_isi (by rfl) T.z_isinstance (by decide +kernel) (pa_cons (pv 1) (pa_cons (pe_bltn (v := .ty "dict") (by rfl) T.z_dict (by decide +kernel) rfl) pa_nil)))) (pss_one ps_never) pss_nil)
      (pss_cons (ps_if (pt_val (pe_callB call_isi (by rfl) T.z_isinstance (by decide +kernel) (pa_cons (pv 1) (pa_cons (pe_bltn (v := .ty "bool") (by rfl) T.z_bool (by decide +kernel) rfl) pa_nil)))) (pss_one (ps_ret (pe_and (pe_callB call_isi (by rfl) T.z_isinstance (by decide +kernel) (pa_cons (pv 0) (pa_cons (pe_bltn (v := .ty "bool") (by rfl) T.z_bool (by decide +kernel) rfl) pa_nil))) (pe_one (pe_cmpR op_eq (pv 0) (pv 1) (nomark _)))))) pss_nil)
      (pss_cons (ps_if (pt_val (pe_callB call_isi (by rfl) T.z_isinstance (by decide +kernel) (pa_cons (pv 1) (pa_cons (pe_bltn (v := .ty "int") (by rfl) T.z_int (by decide +kernel) rfl) pa_nil)))) (pss_one (ps_ret (pe_and (pe_call (ok_l_int0 T) (hr.mono (by omega)) (by rfl) T.g_l_int T.F_l_int.kp (b_l_int T) .nil pass0 (pa_cons (pv 0) pa_nil)) (pe_one (pe_cmpR op_eq (pv 0) (pv 1) (nomark _)))))) pss_nil)
      (pss_cons (ps_if (pt_val (pe_callB call_isi (by rfl) T.z_isinstance (by decide +kernel) (pa_cons (pv 1) (pa_cons (pe_bltn (v := .ty "str") (by rfl) T.z_str (by decide +kernel) rfl) pa_nil)))) (pss_one (ps_ret (pe_and (pe_callB call_isi (by rfl) T.z_isinstance (by decide +kernel) (pa_cons (pv 0) (pa_cons (pe_bltn (v := .ty "str") (by rfl) T.z_str (by decide +kernel) rfl) pa_nil))) (pe_one (pe_cmpR op_eq (pv 0) (pv 1) (nomark _)))))) pss_nil)
      (pss_one (ps_ret (pe_and (pe_cmpR op_isN (pv 1) pe_non (nomark _)) (pe_one (pe_cmpR op_isN (pv 0) pe_non (nomark _)))))))))))
theorem ok_l_same (T : Tx K mg) : FnOk P w K mg base CX0 8 (He.fAd K ("_law_same", none)) T.fd_l_same ["_law_found", "_law_due"] (sp_l_same2 K) := ok_same2N T 6
theorem b_l_stock (T : Tx K mg) : Binds K T.fd_l_stock ["_law_deck_here"] [] := T.F_l_stock.bindsN fun _ _ _ _ _ _ us hl => match us, hl with | [_], _ => rfl
theorem ok_l_stock (T : Tx K mg) : FnOk P w K mg base CX0 4 (He.fAd K ("_law_stock", none)) T.fd_l_stock ["_law_deck_here"] (sp_l_stock K) := by
  refine T.F_l_stock.ok sc_l_stock (fun vs H Q E h => len_l_stock h) (fun cdv A outer s H vs Q E hr h => ⟨t_l_stock K, PSs.nox ?_, pure_l_stock h⟩)
  exact (pss_cons (ps_set (i := 1) sc_l_stock.nd rfl (Or.inr rfl) pe_int)
      (pss_cons (ps_if (pt_cmpR op_eq (pe_call (ok_l_draw T) (hr.mono (by decide)) (by rfl) T.g_l_draw T.F_l_draw.kp (b_l_draw T) .nil pass0 (pa_cons (pv 0) (pa_cons pe_int pa_nil))) pe_int (nomark _)) (pss_one (ps_set (i := 1) sc_l_stock.nd rfl (Or.inr rfl) pe_int)) pss_nil)
      (pss_one (ps_ret (pe_lc (own := [("_law_k", 2)]) (g := (gName 2)) (tt := tYes) (te := (tCall (sp_l_text K) [] E0 (tCons (tVar 0) (tCons (tVar 1) tNil)))) rfl sc_l_stock.nd (pi_range1 (by rfl) T.z_range (pa_cons (pe_op op_add pe_int (pe_call (ok_l_draw T) (hr.mono (by decide)) (by rfl) T.g_l_draw T.F_l_draw.kp (b_l_draw T) .nil pass0 (pa_cons (pv 0) (pa_cons pe_int pa_nil)))) pa_nil)) (blkOk_by (own := [("_law_k", 2)]) (N := N_l_stock) (sc := defScope s_l_stock) (by decide +kernel)) (fun _ _ _ _ _ => (pg_name (i := 2) sc_l_stock.nd rfl (Or.inl rfl))) (fun _ _ _ _ _ => pts_nil) (fun _ _ _ _ _ => (pe_call (ok_l_text T) (hr.mono (by decide)) (by rfl) T.g_l_text T.F_l_text.kp (b_l_text T) .nil pass0 (pa_cons (pv 0) (pa_cons (pv 1) pa_nil)))))))))
theorem b_l_lines (T : Tx K mg) : Binds K T.fd_l_lines ["_law_deck_here", "_law_stock_here", "_law_most_here"] [] := T.F_l_lines.bindsN fun _ _ _ _ _ _ us hl => match us, hl with | [_, _, _], _ => rfl
theorem ok_l_lines (T : Tx K mg) : FnOk P w K mg base CX0 3 (He.fAd K ("_law_lines", none)) T.fd_l_lines ["_law_deck_here", "_law_stock_here", "_law_most_here"] (sp_l_lines K) := by
  refine T.F_l_lines.ok sc_l_lines (fun vs H Q E h => len_l_lines h) (fun cdv A outer s H vs Q E hr h => ⟨t_l_lines K, PSs.nox ?_, pure_l_lines h⟩)
  exact (pss_one (ps_ret (pe_callTy call_tuple_of (by rfl) T.z_tuple (by decide +kernel) (pa_cons (pe_lc (own := [("_law_k", 3)]) (g := (gName 3)) (tt := tYes) (te := (tOp (rIx K) (tVar 1) (tCall (sp_l_draw K) [] E0 (tCons (tVar 0) (tCons (tCB (fLen K) (tCons (tVar 1) tNil)) tNil))))) rfl sc_l_lines.nd (pi_range1 (by rfl) T.z_range (pa_cons (pe_call (ok_l_draw T) (hr.mono (by decide)) (by rfl) T.g_l_draw T.F_l_draw.kp (b_l_draw T) .nil pass0 (pa_cons (pv 0) (pa_cons (pe_op op_add (pv 2) pe_int) pa_nil))) pa_nil)) (blkOk_by (own := [("_law_k", 3)]) (N := N_l_lines) (sc := defScope s_l_lines) (by decide +kernel)) (fun _ _ _ _ _ => (pg_name (i := 3) sc_l_lines.nd rfl (Or.inl rfl))) (fun _ _ _ _ _ => pts_nil) (fun _ _ _ _ _ => (pe_ix ix_seq (pv 1) (pe_call (ok_l_draw T) (hr.mono (by decide)) (by rfl) T.g_l_draw T.F_l_draw.kp (b_l_draw T) .nil pass0 (pa_cons (pv 0) (pa_cons (pe_callB call_len (by rfl) T.z_len PySem.boot_len (pa_cons (pv 1) pa_nil)) pa_nil))) (fun _ _ => rfl)))) pa_nil))))
theorem b_l_most (T : Tx K mg) : Binds K T.fd_l_most ["_law_deck_here"] [] := T.F_l_most.bindsN fun _ _ _ _ _ _ us hl => match us, hl with | [_], _ => rfl
theorem ok_l_most (T : Tx K mg) : FnOk P w K mg base CX0 3 (He.fAd K ("_law_most", none)) T.fd_l_most ["_law_deck_here"] (sp_l_most K) := by
  refine T.F_l_most.ok sc_l_most (fun vs H Q E h => len_l_most h) (fun cdv A outer s H vs Q E hr h => ⟨t_l_most K, PSs.nox ?_, pure_l_most h⟩)
  exact (pss_cons (ps_if (pt_cmpR op_eq (pe_call (ok_l_draw T) (hr.mono (by decide)) (by rfl) T.g_l_draw T.F_l_draw.kp (b_l_draw T) .nil pass0 (pa_cons (pv 0) (pa_cons pe_int pa_nil))) pe_int (nomark _)) (pss_one (ps_ret pe_int)) pss_nil)
      (pss_one (ps_ret pe_int)))
theorem b_l_script (T : Tx K mg) : Binds K T.fd_l_script ["_law_deck_here", "_law_base", "_law_stock_here", "_law_most_here"] [] := T.F_l_script.bindsN fun _ _ _ _ _ _ us hl => match us, hl with | [_, _, _, _], _ => rfl
theorem ok_l_script (T : Tx K mg) : FnOk P w K mg base CX0 3 (He.fAd K ("_law_script", none)) T.fd_l_script ["_law_deck_here", "_law_base", "_law_stock_here", "_law_most_here"] (sp_l_script K) := by
  refine T.F_l_script.ok sc_l_script (fun vs H Q E h => len_l_script h) (fun cdv A outer s H vs Q E hr h => ⟨t_l_script K, PSs.nox ?_, pure_l_script h⟩)
  exact (pss_cons (ps_set (i := 4) sc_l_script.nd rfl (Or.inl rfl) (pe_lst pa_nil))
      (pss_cons (ps_set (i := 5) sc_l_script.nd rfl (Or.inl rfl) (pe_call (ok_l_draw T) (hr.mono (by decide)) (by rfl) T.g_l_draw T.F_l_draw.kp (b_l_draw T) .nil pass0 (pa_cons (pv 0) (pa_cons (pe_op op_add (pv 3) pe_int) pa_nil))))
      (pss_cons (ps_while PassesOwn.never (pt_cmpR op_gt (pv 5) pe_int (nomark _)) (pss_cons (ps_if (PW.pt (pw_and (pt_cmpR op_gt (pe_callB call_len (by rfl) T.z_len PySem.boot_len (pa_cons (pv 1) pa_nil)) pe_int (nomark _)) (pw_and1 (pt_cmpR op_gt (pe_call (ok_l_draw T) (hr.mono (by decide)) (by rfl) T.g_l_draw T.F_l_draw.kp (b_l_draw T) .nil pass0 (pa_cons (pv 0) (pa_cons pe_int pa_nil))) pe_int (nomark _))))) (pss_cons (ps_set (i := 6) sc_l_script.nd rfl (Or.inl rfl) (pe_call (ok_l_draw T) (hr.mono (by decide)) (by rfl) T.g_l_draw T.F_l_draw.kp (b_l_draw T) .nil pass0 (pa_cons (pv 0) (pa_cons (pe_callB call_len (by rfl) T.z_len PySem.boot_len (pa_cons (pv 1) pa_nil)) pa_nil))))
      (pss_cons (ps_set (i := 7) sc_l_script.nd rfl (Or.inl rfl) (pe_op op_add pe_int (pe_call (ok_l_draw T) (hr.mono (by decide)) (by rfl) T.g_l_draw T.F_l_draw.kp (b_l_draw T) .nil pass0 (pa_cons (pv 0) (pa_cons (pe_callB (call_min2 rfl) (by rfl) T.z_min (by decide +kernel) (pa_cons (pv 5) (pa_cons (pe_op op_sub (pe_callB call_len (by rfl) T.z_len PySem.boot_len (pa_cons (pv 1) pa_nil)) (pv 6)) pa_nil))) pa_nil)))))
      (pss_one (ps_expr (pe_bm PySem.F.plainAttrs_list PySem.F.slot_list_append PySem.F.type_list_append mt_append (pv 4) (pa_cons (pe_tup (pa_cons pe_str (pa_cons (pv 6) (pa_cons (pv 7) pa_nil)))) pa_nil)))))) (pss_cons (ps_set (i := 7) sc_l_script.nd rfl (Or.inl rfl) (pe_op op_add pe_int (pe_call (ok_l_draw T) (hr.mono (by decide)) (by rfl) T.g_l_draw T.F_l_draw.kp (b_l_draw T) .nil pass0 (pa_cons (pv 0) (pa_cons (pe_callB (call_min2 rfl) (by rfl) T.z_min (by decide +kernel) (pa_cons (pv 5) (pa_cons pe_int pa_nil))) pa_nil)))))
      (pss_one (ps_expr (pe_bm PySem.F.plainAttrs_list PySem.F.slot_list_append PySem.F.type_list_append mt_append (pv 4) (pa_cons (pe_tup (pa_cons pe_str (pa_cons (pe_callTy call_tuple_of (by rfl) T.z_tuple (by decide +kernel) (pa_cons (pe_lc (own := [("_law_k", 8)]) (g := (gName 8)) (tt := tYes) (te := (tOp (rIx K) (tVar 2) (tCall (sp_l_draw K) [] E0 (tCons (tVar 0) (tCons (tCB (fLen K) (tCons (tVar 2) tNil)) tNil))))) rfl sc_l_script.nd (pi_range1 (by rfl) T.z_range (pa_cons (pv 7) pa_nil)) (blkOk_by (own := [("_law_k", 8)]) (N := N_l_script) (sc := defScope s_l_script) (by decide +kernel)) (fun _ _ _ _ _ => (pg_name (i := 8) sc_l_script.nd rfl (Or.inl rfl))) (fun _ _ _ _ _ => pts_nil) (fun _ _ _ _ _ => (pe_ix ix_seq (pv 2) (pe_call (ok_l_draw T) (hr.mono (by decide)) (by rfl) T.g_l_draw T.F_l_draw.kp (b_l_draw T) .nil pass0 (pa_cons (pv 0) (pa_cons (pe_callB call_len (by rfl) T.z_len PySem.boot_len (pa_cons (pv 2) pa_nil)) pa_nil))) (fun _ _ => rfl)))) pa_nil)) pa_nil))) pa_nil))))))
      (pss_one (ps_set (i := 5) sc_l_script.nd rfl (Or.inl rfl) (pe_op op_sub (pv 5) (pv 7))))))
      (pss_one (ps_ret (pe_callTy call_tuple_of (by rfl) T.z_tuple (by decide +kernel) (pa_cons (pv 4) pa_nil)))))))
theorem b_l_made (T : Tx K mg) : Binds K T.fd_l_made ["_law_base", "_law_pieces"] [] := T.F_l_made.bindsN fun _ _ _ _ _ _ us hl => match us, hl with | [_, _], _ => rfl
theorem ok_l_made (T : Tx K mg) : FnOk P w K mg base CX0 1 (He.fAd K ("_law_made", none)) T.fd_l_made ["_law_base", "_law_pieces"] (sp_l_made K) := by
  refine T.F_l_made.ok sc_l_made (fun vs H Q E h => len_l_made h) (fun cdv A outer s H vs Q E hr h => ⟨t_l_made K, PSs.nox ?_, pure_l_made h⟩)
  exact (pss_cons (ps_set (i := 2) sc_l_made.nd rfl (Or.inl rfl) (pe_lst pa_nil))
      (pss_cons (ps_for PassesOwn.never rfl (pi_tup (pv 1)) (pg_name (i := 3) sc_l_made.nd rfl (Or.inl rfl)) (pss_one (ps_if (pt_cmpR op_eq (pe_ix ix_seq (pv 3) pe_int (fun _ _ => rfl)) pe_str (nomark _)) (pss_one (ps_for PassesOwn.never rfl (pi_range1 (by rfl) T.z_range (pa_cons (pe_ix ix_seq (pv 3) pe_int (fun _ _ => rfl)) pa_nil)) (pg_name (i := 4) sc_l_made.nd rfl (Or.inl rfl)) (pss_one (ps_expr (pe_bm PySem.F.plainAttrs_list PySem.F.slot_list_append PySem.F.type_list_append mt_append (pv 2) (pa_cons (pe_ix ix_seq (pv 0) (pe_op op_add (pe_ix ix_seq (pv 3) pe_int (fun _ _ => rfl)) (pv 4)) (fun _ _ => rfl)) pa_nil)))))) (pss_one (ps_for PassesOwn.never rfl (pi_tup (pe_ix ix_seq (pv 3) pe_int (fun _ _ => rfl))) (pg_name (i := 5) sc_l_made.nd rfl (Or.inl rfl)) (pss_one (ps_expr (pe_bm PySem.F.plainAttrs_list PySem.F.slot_list_append PySem.F.type_list_append mt_append (pv 2) (pa_cons (pv 5) pa_nil)))))))))
      (pss_one (ps_ret (pe_callTy call_tuple_of (by rfl) T.z_tuple (by decide +kernel) (pa_cons (pv 2) pa_nil))))))
theorem b_l_cost (T : Tx K mg) : Binds K T.fd_l_cost ["_law_pieces", "_law_by_take", "_law_by_put"] [] := T.F_l_cost.bindsN fun _ _ _ _ _ _ us hl => match us, hl with | [_, _, _], _ => rfl
theorem ok_l_cost (T : Tx K mg) : FnOk P w K mg base CX0 1 (He.fAd K ("_law_cost", none)) T.fd_l_cost ["_law_pieces", "_law_by_take", "_law_by_put"] (sp_l_cost K) := by
  refine T.F_l_cost.ok sc_l_cost (fun vs H Q E h => len_l_cost h) (fun cdv A outer s H vs Q E hr h => ⟨t_l_cost K, PSs.nox ?_, pure_l_cost h⟩)
  exact (pss_cons (ps_set (i := 3) sc_l_cost.nd rfl (Or.inl rfl) pe_int)
      (pss_cons (ps_for PassesOwn.never rfl (pi_tup (pv 0)) (pg_name (i := 4) sc_l_cost.nd rfl (Or.inl rfl)) (pss_one (ps_if (pt_cmpR op_eq (pe_ix ix_seq (pv 4) pe_int (fun _ _ => rfl)) pe_str (nomark _)) (pss_one (ps_set (i := 3) sc_l_cost.nd rfl (Or.inl rfl) (pe_op op_add (pv 3) (pv 1)))) (pss_one (ps_set (i := 3) sc_l_cost.nd rfl (Or.inl rfl) (pe_op op_add (pv 3) (pe_op op_mul (pv 2) (pe_callB call_len (by rfl) T.z_len PySem.boot_len (pa_cons (pe_ix ix_seq (pv 4) pe_int (fun _ _ => rfl)) pa_nil)))))))))
      (pss_one (ps_ret (pv 3)))))
theorem b_l_is_lineA (T : Tx K mg) : Binds K T.fd_l_is_lineA ["_law_thing"] [] := T.F_l_is_lineA.bindsN fun _ _ _ _ _ _ us hl => match us, hl with | [_], _ => rfl
theorem ok_l_is_lineA (T : Tx K mg) : FnOk P w K mg base CX0 1 (He.fAd K ("_law_is_line", none)) T.fd_l_is_lineA ["_law_thing"] (sp_l_is_lineA K) := by
  refine T.F_l_is_lineA.ok sc_l_is_lineA (fun vs H Q E h => len_l_is_lineA h) (fun cdv A outer s H vs Q E hr h => ⟨t_l_is_lineA K, PSs.nox ?_, pure_l_is_lineA h⟩)
  exact (pss_cons (ps_if (PW.pt (pw_or (pt_not (pt_val (pe_callB call_isi (by rfl) T.z_isinstance (by decide +kernel) (pa_cons (pv 0) (pa_cons (pe_bltn (v := .ty "str") (by rfl) T.z_str (by decide +kernel) rfl) pa_nil))))) (pw_or1 (pt_cmpR op_gt (pe_callB call_len (by rfl) T.z_len PySem.boot_len (pa_cons (pv 0) pa_nil)) pe_int (nomark _))))) (pss_one (ps_ret pe_bl)) pss_nil)
      (pss_cons (ps_for PassesOwn.never rfl (pi_str (pv 0)) (pg_name (i := 1) sc_l_is_lineA.nd rfl (Or.inl rfl)) (pss_one (ps_if (PW.pt (pw_or (pt_cmpR op_lt_str (pv 1) pe_str (nomark _)) (pw_or1 (pt_cmpR op_gt_str (pv 1) pe_str (nomark _))))) (pss_one (ps_ret pe_bl)) pss_nil)))
      (pss_one (ps_ret pe_bl))))
theorem b_l_sizeA (T : Tx K mg) : Binds K T.fd_l_sizeA ["_law_piece"] [] := T.F_l_sizeA.bindsN fun _ _ _ _ _ _ us hl => match us, hl with | [_], _ => rfl
theorem ok_l_sizeA (T : Tx K mg) : FnOk P w K mg base CX0 2 (He.fAd K ("_law_size", none)) T.fd_l_sizeA ["_law_piece"] (sp_l_sizeA K) := by
  refine T.F_l_sizeA.ok sc_l_sizeA (fun vs H Q E h => len_l_sizeA h) (fun cdv A outer s H vs Q E hr h => ⟨t_l_sizeA K, PSs.nox ?_, pure_l_sizeA h⟩)
  exact (pss_cons (ps_if (PW.pt (pw_or (pt_not (pt_val (pe_callB call_isi (by rfl) T.z_isinstance (by decide +kernel) (pa_cons (pv 0) (pa_cons (pe_bltn (v := .ty "tuple") (by rfl) T.z_tuple (by decide +kernel) rfl) pa_nil))))) (pw_or (pt_cmpR op_lt (pe_callB call_len (by rfl) T.z_len PySem.boot_len (pa_cons (pv 0) pa_nil)) pe_int (nomark _)) (pw_or1 (pt_not (pt_val (pe_callB call_isi (by rfl) T.z_isinstance (by decide +kernel) (pa_cons (pe_ix ix_seq (pv 0) pe_int (fun _ _ => rfl)) (pa_cons (pe_bltn (v := .ty "str") (by rfl) T.z_str (by decide +kernel) rfl) pa_nil))))))))) (pss_one (ps_ret pe_int)) pss_nil)
      (pss_cons (ps_if (PW.pt (pw_and (pt_cmpR op_eq (pe_ix ix_seq (pv 0) pe_int (fun _ _ => rfl)) pe_str (nomark _)) (pw_and (pt_cmpR op_eq (pe_callB call_len (by rfl) T.z_len PySem.boot_len (pa_cons (pv 0) pa_nil)) pe_int (nomark _)) (pw_and (pt_val (pe_call (ok_l_int T) (hr.mono (by decide)) (by rfl) T.g_l_int T.F_l_int.kp (b_l_int T) .nil pass0 (pa_cons (pe_ix ix_seq (pv 0) pe_int (fun _ _ => rfl)) pa_nil))) (pw_and1 (pt_val (pe_call (ok_l_int T) (hr.mono (by decide)) (by rfl) T.g_l_int T.F_l_int.kp (b_l_int T) .nil pass0 (pa_cons (pe_ix ix_seq (pv 0) pe_int (fun _ _ => rfl)) pa_nil)))))))) (pss_cons (ps_if (PW.pt (pw_and (pt_cmpR op_ge (pe_ix ix_seq (pv 0) pe_int (fun _ _ => rfl)) pe_int (nomark _)) (pw_and1 (pt_cmpR op_ge (pe_ix ix_seq (pv 0) pe_int (fun _ _ => rfl)) pe_int (nomark _))))) (pss_one (ps_ret (pe_ix ix_seq (pv 0) pe_int (fun _ _ => rfl)))) pss_nil)
      (pss_one (ps_ret pe_int))) pss_nil)
      (pss_cons (ps_if (PW.pt (pw_or (pt_cmpR op_ne (pe_ix ix_seq (pv 0) pe_int (fun _ _ => rfl)) pe_str (nomark _)) (pw_or (pt_cmpR op_ne (pe_callB call_len (by rfl) T.z_len PySem.boot_len (pa_cons (pv 0) pa_nil)) pe_int (nomark _)) (pw_or1 (pt_not (pt_val (pe_callB call_isi (by rfl) T.z_isinstance (by decide +kernel) (pa_cons (pe_ix ix_seq (pv 0) pe_int (fun _ _ => rfl)) (pa_cons (pe_bltn (v := .ty "tuple") (by rfl) T.z_tuple (by decide +kernel) rfl) pa_nil))))))))) (pss_one (ps_ret pe_int)) pss_nil)
      (pss_cons (ps_for PassesOwn.never rfl (pi_tup (pe_ix ix_seq (pv 0) pe_int (fun _ _ => rfl))) (pg_name (i := 1) sc_l_sizeA.nd rfl (Or.inl rfl)) (pss_one (ps_if (pt_not (pt_val (pe_call (ok_l_is_lineA T) (hr.mono (by decide)) (by rfl) T.g_l_is_lineA T.F_l_is_lineA.kp (b_l_is_lineA T) .nil pass0 (pa_cons (pv 1) pa_nil)))) (pss_one (ps_ret pe_int)) pss_nil)))
      (pss_one (ps_ret (pe_callB call_len (by rfl) T.z_len PySem.boot_len (pa_cons (pe_ix ix_seq (pv 0) pe_int (fun _ _ => rfl)) pa_nil))))))))
theorem b_l_is_scriptA (T : Tx K mg) : Binds K T.fd_l_is_scriptA ["_law_thing"] [] := T.F_l_is_scriptA.bindsN fun _ _ _ _ _ _ us hl => match us, hl with | [_], _ => rfl
theorem ok_l_is_scriptA (T : Tx K mg) : FnOk P w K mg base CX0 3 (He.fAd K ("_law_is_script", none)) T.fd_l_is_scriptA ["_law_thing"] (sp_l_is_scriptA K) := by
  refine T.F_l_is_scriptA.ok sc_l_is_scriptA (fun vs H Q E h => len_l_is_scriptA h) (fun cdv A outer s H vs Q E hr h => ⟨t_l_is_scriptA K, PSs.nox ?_, pure_l_is_scriptA h⟩)
  exact (pss_cons (ps_if (pt_not (pt_val (pe_callB call_isi (by rfl) T.z_isinstance (by decide +kernel) (pa_cons (pv 0) (pa_cons (pe_bltn (v := .ty "tuple") (by rfl) T.z_tuple (by decide +kernel) rfl) pa_nil))))) (pss_one (ps_ret pe_bl)) pss_nil)
      (pss_cons (ps_set (i := 1) sc_l_is_scriptA.nd rfl (Or.inl rfl) pe_int)
      (pss_cons (ps_for PassesOwn.never rfl (pi_tup (pv 0)) (pg_name (i := 2) sc_l_is_scriptA.nd rfl (Or.inl rfl)) (pss_cons (ps_if (pt_cmpR op_eq (pe_call (ok_l_sizeA T) (hr.mono (by decide)) (by rfl) T.g_l_sizeA T.F_l_sizeA.kp (b_l_sizeA T) .nil pass0 (pa_cons (pv 2) pa_nil)) pe_int (nomark _)) (pss_one (ps_ret pe_bl)) pss_nil)
      (pss_one (ps_set (i := 1) sc_l_is_scriptA.nd rfl (Or.inl rfl) (pe_op op_add (pv 1) (pe_call (ok_l_sizeA T) (hr.mono (by decide)) (by rfl) T.g_l_sizeA T.F_l_sizeA.kp (b_l_sizeA T) .nil pass0 (pa_cons (pv 2) pa_nil)))))))
      (pss_one (ps_ret (pe_cmpR op_le (pv 1) pe_int (nomark _)))))))
theorem b_l_fitsA (T : Tx K mg) : Binds K T.fd_l_fitsA ["_law_base", "_law_thing"] [] := T.F_l_fitsA.bindsN fun _ _ _ _ _ _ us hl => match us, hl with | [_, _], _ => rfl
theorem ok_l_fitsA (T : Tx K mg) : FnOk P w K mg base CX0 4 (He.fAd K ("_law_fits", none)) T.fd_l_fitsA ["_law_base", "_law_thing"] (sp_l_fitsA K) := by
  refine T.F_l_fitsA.ok sc_l_fitsA (fun vs H Q E h => len_l_fitsA h) (fun cdv A outer s H vs Q E hr h => ⟨t_l_fitsA K, PSs.nox ?_, pure_l_fitsA h⟩)
  exact (pss_cons (ps_if (pt_not (pt_val (pe_call (ok_l_is_scriptA T) (hr.mono (by decide)) (by rfl) T.g_l_is_scriptA T.F_l_is_scriptA.kp (b_l_is_scriptA T) .nil pass0 (pa_cons (pv 1) pa_nil)))) (pss_one (ps_ret pe_bl)) pss_nil)
      (pss_cons (ps_for PassesOwn.never rfl (pi_tup (pv 1)) (pg_name (i := 2) sc_l_fitsA.nd rfl (Or.inl rfl)) (pss_one (ps_if (PW.pt (pw_and (pt_cmpR op_eq (pe_ix ix_seq (pv 2) pe_int (fun _ _ => rfl)) pe_str (nomark _)) (pw_and1 (pt_cmpR op_gt (pe_op op_add (pe_ix ix_seq (pv 2) pe_int (fun _ _ => rfl)) (pe_ix ix_seq (pv 2) pe_int (fun _ _ => rfl))) (pe_callB call_len (by rfl) T.z_len PySem.boot_len (pa_cons (pv 0) pa_nil)) (nomark _))))) (pss_one (ps_ret pe_bl)) pss_nil)))
      (pss_one (ps_ret pe_bl))))
theorem b_l_odd (T : Tx K mg) : Binds K T.fd_l_odd ["_law_deck_here"] [] := T.F_l_odd.bindsN fun _ _ _ _ _ _ us hl => match us, hl with | [_], _ => rfl
theorem ok_l_odd (T : Tx K mg) : FnOk P w K mg base CX0 3 (He.fAd K ("_law_odd", none)) T.fd_l_odd ["_law_deck_here"] (sp_l_odd K) := by
  refine T.F_l_odd.ok sc_l_odd (fun vs H Q E h => len_l_odd h) (fun cdv A outer s H vs Q E hr h => ⟨t_l_odd K, PSs.nox ?_, pure_l_odd h⟩)
  exact (pss_cons (ps_set (i := 1) sc_l_odd.nd rfl (Or.inl rfl) (pe_lst (pa_cons pe_non (pa_cons pe_bl (pa_cons pe_bl (pa_cons (pe_un un_neg pe_int) (pa_cons pe_int (pa_cons pe_int (pa_cons pe_int (pa_cons pe_int (pa_cons pe_int (pa_cons pe_int (pa_cons (pe_op op_pow pe_int pe_int) (pa_cons pe_str (pa_cons pe_str (pa_cons pe_str (pa_cons pe_str (pa_cons (pe_tup pa_nil) (pa_cons (pe_lst pa_nil) (pa_cons pe_dnewK (pa_cons (pe_tup (pa_cons pe_int pa_nil)) (pa_cons (pe_tup (pa_cons pe_int (pa_cons pe_int pa_nil))) (pa_cons (pe_lst (pa_cons pe_int pa_nil)) pa_nil)))))))))))))))))))))))
      (pss_cons (ps_set (i := 1) sc_l_odd.nd rfl (Or.inl rfl) (pe_op op_cat (pv 1) (pe_lst (pa_cons (pe_tup (pa_cons (pe_tup pa_nil) pa_nil)) (pa_cons (pe_tup (pa_cons (pe_tup pa_nil) (pa_cons (pe_tup pa_nil) pa_nil))) (pa_cons (pe_tup (pa_cons pe_str pa_nil)) (pa_cons (pe_lst (pa_cons pe_str pa_nil)) (pa_cons (pe_tup (pa_cons (pe_op op_repS pe_str pe_int) pa_nil)) (pa_cons (pe_tup (pa_cons pe_str pa_nil)) (pa_cons (pe_op op_repT (pe_tup (pa_cons pe_str pa_nil)) pe_int) (pa_cons (pe_tup (pa_cons pe_int pa_nil)) (pa_cons (pe_tup (pa_cons pe_non pa_nil)) (pa_cons (pe_disp (pps_cons pe_int pe_int pps_nil) (by rfl) (by rfl) (fun z => by cases z) (by decide)) pa_nil)))))))))))))
      (pss_cons (ps_set (i := 1) sc_l_odd.nd rfl (Or.inl rfl) (pe_op op_cat (pv 1) (pe_lst (pa_cons (pe_tup (pa_cons pe_str (pa_cons pe_int (pa_cons pe_int pa_nil)))) (pa_cons (pe_tup (pa_cons pe_str (pa_cons pe_int (pa_cons pe_int pa_nil)))) (pa_cons (pe_tup (pa_cons pe_str (pa_cons (pe_un un_neg pe_int) (pa_cons pe_int pa_nil)))) (pa_cons (pe_tup (pa_cons pe_str (pa_cons pe_bl (pa_cons pe_int pa_nil)))) (pa_cons (pe_tup (pa_cons pe_str (pa_cons pe_int (pa_cons pe_int (pa_cons pe_int pa_nil))))) (pa_cons (pe_tup (pa_cons pe_str (pa_cons pe_int pa_nil))) pa_nil)))))))))
      (pss_cons (ps_set (i := 1) sc_l_odd.nd rfl (Or.inl rfl) (pe_op op_cat (pv 1) (pe_lst (pa_cons (pe_tup (pa_cons pe_str (pa_cons (pe_tup pa_nil) pa_nil))) (pa_cons (pe_tup (pa_cons pe_str (pa_cons (pe_tup (pa_cons pe_str pa_nil)) pa_nil))) (pa_cons (pe_tup (pa_cons pe_str (pa_cons pe_str pa_nil))) (pa_cons (pe_tup (pa_cons pe_str pa_nil)) (pa_cons (pe_tup (pa_cons pe_str (pa_cons (pe_tup (pa_cons pe_int pa_nil)) pa_nil))) (pa_cons (pe_tup (pa_cons pe_str (pa_cons pe_int (pa_cons pe_int pa_nil)))) (pa_cons (pe_tup (pa_cons pe_str (pa_cons (pe_tup (pa_cons pe_int pa_nil)) pa_nil))) pa_nil))))))))))
      (pss_cons (ps_set (i := 1) sc_l_odd.nd rfl (Or.inl rfl) (pe_op op_cat (pv 1) (pe_lst (pa_cons (pe_tup (pa_cons pe_str (pa_cons (pe_tup pa_nil) (pa_cons (pe_tup pa_nil) pa_nil)))) (pa_cons (pe_tup (pa_cons pe_str (pa_cons (pe_tup (pa_cons pe_int pa_nil)) (pa_cons (pe_tup pa_nil) pa_nil)))) (pa_cons (pe_tup (pa_cons pe_int (pa_cons pe_int (pa_cons pe_non pa_nil)))) (pa_cons (pe_tup (pa_cons pe_int (pa_cons pe_non (pa_cons pe_int pa_nil)))) (pa_cons (pe_tup (pa_cons (pe_tup (pa_cons (pe_tup (pa_cons (pe_tup (pa_cons (pe_tup (pa_cons (pe_tup (pa_cons (pe_tup (pa_cons (pe_tup (pa_cons (pe_tup (pa_cons (pe_tup (pa_cons pe_int pa_nil)) pa_nil)) pa_nil)) pa_nil)) pa_nil)) pa_nil)) pa_nil)) pa_nil)) pa_nil)) pa_nil)) pa_nil))))))))
      (pss_one (ps_ret (pe_ix ix_seq (pv 1) (pe_call (ok_l_draw T) (hr.mono (by decide)) (by rfl) T.g_l_draw T.F_l_draw.kp (b_l_draw T) .nil pass0 (pa_cons (pv 0) (pa_cons (pe_callB call_len (by rfl) T.z_len PySem.boot_len (pa_cons (pv 1) pa_nil)) pa_nil))) (fun _ _ => rfl)))))))))
theorem b_l_bent (T : Tx K mg) : Binds K T.fd_l_bent ["_law_deck_here", "_law_thing", "_law_deep_in"] [] := T.F_l_bent.bindsN fun _ _ _ _ _ _ us hl => match us, hl with | [_, _, _], _ => rfl
theorem ok_bentN (T : Tx K mg) : ∀ n : Nat, FnOk P w K mg base CX0 (n + 4) (He.fAd K ("_law_bent", none)) T.fd_l_bent ["_law_deck_here", "_law_thing", "_law_deep_in"] (sp_bentN K n)
  | 0 => T.F_l_bent.ok sc_l_bent (fun vs H Q E h => len_bentN h) (fun cdv A outer s H vs Q E hr h => by
      obtain ⟨_, _, _, _, _, _, _, h, _⟩ := h
      exact (Nat.lt_irrefl 0 h).elim)
  | n + 1 => by
    have G : FnOk P w K mg base CX0 (n + 4) (He.fAd K ("_law_bent", none)) T.fd_l_bent ["_law_deck_here", "_law_thing", "_law_deep_in"] (sp_bentN K n) := ok_bentN T n
    refine T.F_l_bent.ok sc_l_bent (fun vs H Q E h => len_bentN h) (fun cdv A outer s H vs Q E hr h => ⟨t_l_bent K n, PSs.nox ?_, pure_l_bent h⟩)
    exact (pss_cons (ps_set (i := 3) sc_l_bent.nd rfl (Or.inl rfl) (pe_call (ok_l_draw T) (hr.mono (by omega)) (by rfl) T.g_l_draw T.F_l_draw.kp (b_l_draw T) .nil pass0 (pa_cons (pv 0) (pa_cons pe_int pa_nil))))
      (pss_cons (ps_if (PW.pt (pw_or (pt_cmpR op_eq (pv 2) pe_int (nomark _)) (pw_or (pt_cmpR op_eq (pv 3) pe_int (nomark _)) (pw_or1 (pt_not (pt_val (pe_callB call_isi (by rfl) T.z_isinstance (by decide +kernel) (pa_cons (pv 1) (pa_cons (pe_bltn (v := .ty "tuple") (by rfl) T.z_tuple (by decide +kernel) rfl) pa_nil))))))))) (pss_cons (ps_if (PW.pt (pw_and (pt_val (pe_call (ok_l_int T) (hr.mono (by omega)) (by rfl) T.g_l_int T.F_l_int.kp (b_l_int T) .nil pass0 (pa_cons (pv 1) pa_nil))) (pw_and1 (pt_cmpR op_gt (pv 3) pe_int (nomark _))))) (pss_one (ps_ret (pe_op op_add (pv 1) (pe_ix ix_seq (pe_lst (pa_cons (pe_un un_neg pe_int) (pa_cons pe_int (pa_cons pe_int (pa_cons (pe_un un_neg pe_int) (pa_cons (pe_op op_sub (pe_un un_neg (pv 1)) pe_int) (pa_cons pe_int pa_nil))))))) (pe_call (ok_l_draw T) (hr.mono (by omega)) (by rfl) T.g_l_draw T.F_l_draw.kp (b_l_draw T) .nil pass0 (pa_cons (pv 0) (pa_cons pe_int pa_nil))) (fun _ _ => rfl))))) pss_nil)
      (pss_cons (ps_if (PW.pt (pw_and (pt_val (pe_callB call_isi (by rfl) T.z_isinstance (by decide +kernel) (pa_cons (pv 1) (pa_cons (pe_bltn (v := .ty "str") (by rfl) T.z_str (by decide +kernel) rfl) pa_nil)))) (pw_and1 (pt_cmpR op_gt (pv 3) pe_int (nomark _))))) (pss_one (ps_ret (pe_op op_add_str (pe_op op_add_str (pe_slice sl_str (pv 1) po_none (po_some pe_int)) (pe_ix ix_seq pe_str (pe_call (ok_l_draw T) (hr.mono (by omega)) (by rfl) T.g_l_draw T.F_l_draw.kp (b_l_draw T) .nil pass0 (pa_cons (pv 0) (pa_cons pe_int pa_nil))) (fun _ _ => rfl))) (pe_slice sl_str (pv 1) (po_some pe_int) po_none)))) pss_nil)
      (pss_one (ps_ret (pe_call (ok_l_odd T) (hr.mono (by omega)) (by rfl) T.g_l_odd T.F_l_odd.kp (b_l_odd T) .nil pass0 (pa_cons (pv 0) pa_nil)))))) pss_nil)
      (pss_cons (ps_if (pt_cmpR op_eq (pv 3) pe_int (nomark _)) (pss_one (ps_ret (pe_callTy call_list_of (by rfl) T.z_list (by decide +kernel) (pa_cons (pv 1) pa_nil)))) pss_nil)
      (pss_cons (ps_if (pt_cmpR op_eq (pe_callB call_len (by rfl) T.z_len PySem.boot_len (pa_cons (pv 1) pa_nil)) pe_int (nomark _)) (pss_one (ps_ret (pe_tup (pa_cons (pe_call (ok_l_odd T) (hr.mono (by omega)) (by rfl) T.g_l_odd T.F_l_odd.kp (b_l_odd T) .nil pass0 (pa_cons (pv 0) pa_nil)) pa_nil)))) pss_nil)
      (pss_cons (ps_set (i := 4) sc_l_bent.nd rfl (Or.inl rfl) (pe_call (ok_l_draw T) (hr.mono (by omega)) (by rfl) T.g_l_draw T.F_l_draw.kp (b_l_draw T) .nil pass0 (pa_cons (pv 0) (pa_cons (pe_callB call_len (by rfl) T.z_len PySem.boot_len (pa_cons (pv 1) pa_nil)) pa_nil))))
      (pss_cons (ps_if (pt_cmpR op_eq (pv 3) pe_int (nomark _)) (pss_one (ps_ret (pe_op op_catA (pe_slice sl_tupA (pv 1) po_none (po_some (pv 4))) (pe_slice sl_tupA (pv 1) (po_some (pe_op op_add (pv 4) pe_int)) po_none)))) pss_nil)
      (pss_cons (ps_if (pt_cmpR op_eq (pv 3) pe_int (nomark _)) (pss_one (ps_ret (pe_op op_catA (pe_slice sl_tupA (pv 1) po_none (po_some (pe_op op_add (pv 4) pe_int))) (pe_slice sl_tupA (pv 1) (po_some (pv 4)) po_none)))) pss_nil)
      (pss_cons (ps_if (pt_cmpR op_eq (pv 3) pe_int (nomark _)) (pss_one (ps_ret (pe_op op_catA (pe_op op_catA (pe_op op_catA (pe_slice sl_tupA (pv 1) po_none (po_some (pv 4))) (pe_slice sl_tupA (pv 1) (po_some (pe_op op_add (pv 4) pe_int)) (po_some (pe_op op_add (pv 4) pe_int)))) (pe_tup (pa_cons (pe_ix ix_seq (pv 1) (pv 4) (fun _ _ => rfl)) pa_nil))) (pe_slice sl_tupA (pv 1) (po_some (pe_op op_add (pv 4) pe_int)) po_none)))) pss_nil)
      (pss_one (ps_ret (pe_op op_catA (pe_op op_catA (pe_slice sl_tupA (pv 1) po_none (po_some (pv 4))) (pe_tup (pa_cons (pe_call G hr (by rfl) T.g_l_bent T.F_l_bent.kp (b_l_bent T) .nil pass0 (pa_cons (pv 0) (pa_cons (pe_ix ix_seq (pv 1) (pv 4) (fun _ _ => rfl)) (pa_cons (pe_op op_sub (pv 2) pe_int) pa_nil)))) pa_nil))) (pe_slice sl_tupA (pv 1) (po_some (pe_op op_add (pv 4) pe_int)) po_none))))))))))))
theorem ok_l_bent (T : Tx K mg) : FnOk P w K mg base CX0 9 (He.fAd K ("_law_bent", none)) T.fd_l_bent ["_law_deck_here", "_law_thing", "_law_deep_in"] (sp_l_bent K) := ok_bentN T 5
theorem b_l_spoiled (T : Tx K mg) : Binds K T.fd_l_spoiled ["_law_deck_here", "_law_thing", "_law_times"] [] := T.F_l_spoiled.bindsN fun _ _ _ _ _ _ us hl => match us, hl with | [_, _, _], _ => rfl
theorem ok_l_spoiled (T : Tx K mg) : FnOk P w K mg base CX0 10 (He.fAd K ("_law_spoiled", none)) T.fd_l_spoiled ["_law_deck_here", "_law_thing", "_law_times"] (sp_l_spoiled K) := by
  refine T.F_l_spoiled.ok sc_l_spoiled (fun vs H Q E h => len_l_spoiled h) (fun cdv A outer s H vs Q E hr h => ⟨t_l_spoiled K, PSs.nox ?_, pure_l_spoiled h⟩)
  exact (pss_cons (ps_for PassesOwn.never rfl (pi_range1 (by rfl) T.z_range (pa_cons (pv 2) pa_nil)) (pg_name (i := 3) sc_l_spoiled.nd rfl (Or.inl rfl)) (pss_one (ps_set (i := 1) sc_l_spoiled.nd rfl (Or.inl rfl) (pe_call (ok_l_bent T) (hr.mono (by decide)) (by rfl) T.g_l_bent T.F_l_bent.kp (b_l_bent T) .nil pass0 (pa_cons (pv 0) (pa_cons (pv 1) (pa_cons pe_int pa_nil)))))))
      (pss_one (ps_ret (pv 1))))
theorem b_l_done (T : Tx K mg) : Binds K T.fd_l_done ["_law_base", "_law_thing"] [] := T.F_l_done.bindsN fun _ _ _ _ _ _ us hl => match us, hl with | [_, _], _ => rfl
theorem ok_l_done (T : Tx K mg) : FnOk P w K mg base CX0 10 (He.fAd K ("_law_done", none)) T.fd_l_done ["_law_base", "_law_thing"] (sp_l_done K) := by
  refine T.F_l_done.ok sc_l_done (fun vs H Q E h => len_l_done h) (fun cdv A outer s H vs Q E hr h => ⟨t_l_done K, PSs.nox ?_, pure_l_done T.more h⟩)
  exact (pss_cons (ps_set (i := 2) sc_l_done.nd rfl (Or.inl rfl) (pe_tup (pa_cons pe_str pa_nil)))
      (pss_cons (ps_try_only (tb := fun W => (tAsg (tTup (tCons (tC (.str "told")) (tCons (tCallS (sp_doneA K) (WE W) (tCons (tVar 0) (tCons (tVar 1) tNil))) tNil))) (gName 2))) (ts := fun _ _ _ => (tAsg (tTup (tCons (tC (.str "refused")) tNil)) (gName 2))) rfl rfl ⟨rfl, by decide, .inl T.gc_NoScript⟩ takes0 (fun W pn xe tk _ => (pss_one (ps_set (i := 2) sc_l_done.nd rfl (Or.inl rfl) (pe_tup (pa_cons pe_str (pa_cons (pe_callS (ok_doneA T) (hr.mono (by decide)) (by rfl) T.g_doneA T.F_doneA.kp (b_doneA T) (fun σ => passAt tk σ) (pa_cons (pv 0) (pa_cons (pv 1) pa_nil))) pa_nil)))))) (fun a oe cls d pn _ _ => (pss_one (ps_set (i := 2) sc_l_done.nd rfl (Or.inl rfl) (pe_tup (pa_cons pe_str pa_nil))))))
      (pss_one (ps_ret (pv 2)))))
theorem b_l_priced (T : Tx K mg) : Binds K T.fd_l_priced ["_law_thing"] [] := T.F_l_priced.bindsN fun _ _ _ _ _ _ us hl => match us, hl with | [_], _ => rfl
theorem ok_l_priced (T : Tx K mg) : FnOk P w K mg base CX0 8 (He.fAd K ("_law_priced", none)) T.fd_l_priced ["_law_thing"] (sp_l_priced K) := by
  refine T.F_l_priced.ok sc_l_priced (fun vs H Q E h => len_l_priced h) (fun cdv A outer s H vs Q E hr h => ⟨t_l_priced K, PSs.nox ?_, pure_l_priced T.more h⟩)
  exact (pss_cons (ps_set (i := 1) sc_l_priced.nd rfl (Or.inl rfl) (pe_tup (pa_cons pe_str pa_nil)))
      (pss_cons (ps_try_only (tb := fun W => (tAsg (tTup (tCons (tC (.str "told")) (tCons (tCallSD (sp_priceA K) [.int 3, .int 2] (WE W) (tCons (tVar 0) tNil)) tNil))) (gName 1))) (ts := fun _ _ _ => (tAsg (tTup (tCons (tC (.str "refused")) tNil)) (gName 1))) rfl rfl ⟨rfl, by decide, .inl T.gc_NoScript⟩ takes0 (fun W pn xe tk _ => (pss_one (ps_set (i := 1) sc_l_priced.nd rfl (Or.inl rfl) (pe_tup (pa_cons pe_str (pa_cons (pe_callSD (ok_priceA T) (hr.mono (by decide)) (by rfl) T.g_priceA T.F_priceA.kp (b_priceA T).choose_spec.2 (b_priceA T).choose_spec.1 (fun σ => passAt tk σ) (pa_cons (pv 0) pa_nil)) pa_nil)))))) (fun a oe cls d pn _ _ => (pss_one (ps_set (i := 1) sc_l_priced.nd rfl (Or.inl rfl) (pe_tup (pa_cons pe_str pa_nil))))))
      (pss_one (ps_ret (pv 1)))))
theorem b_l_joins (T : Tx K mg) : Binds K T.fd_l_joins ["_law_base", "_law_one", "_law_other"] [] := T.F_l_joins.bindsN fun _ _ _ _ _ _ us hl => match us, hl with | [_, _, _], _ => rfl
theorem ok_l_joins (T : Tx K mg) : FnOk P w K mg base CX0 10 (He.fAd K ("_law_joins", none)) T.fd_l_joins ["_law_base", "_law_one", "_law_other"] (sp_l_joins K) := by
  refine T.F_l_joins.ok sc_l_joins (fun vs H Q E h => len_l_joins h) (fun cdv A outer s H vs Q E hr h => ⟨t_l_joins K, PSs.nox ?_, pure_l_joins T.more h⟩)
  exact (pss_cons (ps_set (i := 3) sc_l_joins.nd rfl (Or.inl rfl) pe_bl)
      (pss_cons (ps_try_only (tb := fun W => (tDrop (tCallS (sp_joinedA K) (WE W) (tCons (tVar 0) (tCons (tVar 1) (tCons (tVar 2) tNil)))))) (ts := fun _ _ _ => (tAsg (tC (.bl false)) (gName 3))) rfl rfl ⟨rfl, by decide, .inl T.gc_NoScript⟩ takes0 (fun W pn xe tk _ => (pss_one (ps_expr (pe_callS (ok_joinedA T) (hr.mono (by decide)) (by rfl) T.g_joinedA T.F_joinedA.kp (b_joinedA T) (fun σ => passAt tk σ) (pa_cons (pv 0) (pa_cons (pv 1) (pa_cons (pv 2) pa_nil))))))) (fun a oe cls d pn _ _ => (pss_one (ps_set (i := 3) sc_l_joins.nd rfl (Or.inl rfl) pe_bl))))
      (pss_one (ps_ret (pv 3)))))
theorem b_l_kinds (T : Tx K mg) : Binds K T.fd_l_kinds ["_law_base", "_law_thing"] [] := T.F_l_kinds.bindsN fun _ _ _ _ _ _ us hl => match us, hl with | [_, _], _ => rfl
theorem ok_l_kinds (T : Tx K mg) : FnOk P w K mg base CX0 10 (He.fAd K ("_law_kinds", none)) T.fd_l_kinds ["_law_base", "_law_thing"] (sp_l_kinds K) := by
  refine T.F_l_kinds.ok sc_l_kinds (fun vs H Q E h => len_l_kinds h) (fun cdv A outer s H vs Q E hr h => ⟨t_l_kinds K, PSs.nox ?_, pure_l_kinds T.more h⟩)
  exact (pss_cons (ps_set (i := 2) sc_l_kinds.nd rfl (Or.inl rfl) (pe_tup (pa_cons pe_bl (pa_cons pe_bl (pa_cons pe_bl pa_nil)))))
      (pss_cons (ps_try_as (i := 3) (tb := fun W => (tDrop (tCallS (sp_doneA K) (WE W) (tCons (tVar 0) (tCons (tVar 1) tNil))))) (ts := fun xa xcls xd => (tAsg (tTup (tCons (tCB (rIsX K xa xcls xd) (tCons (tVar 3) (tCons (tC (.ty "ValueError")) tNil))) (tCons (tCB (rIsX K xa xcls xd) (tCons (tVar 3) (tCons (tC (.ref (He.ga K "NoScript"))) tNil))) (tCons (tCB (rIsX K xa xcls xd) (tCons (tVar 3) (tCons (tC (.ref (He.ga K "BadRow"))) tNil))) tNil)))) (gName 2))) rfl rfl sc_l_kinds.nd rfl rfl ⟨rfl, by decide, .inl T.gc_HouseError⟩ takes0 (fun W pn xe tk _ => (pss_one (ps_expr (pe_callS (ok_doneA T) (hr.mono (by decide)) (by rfl) T.g_doneA T.F_doneA.kp (b_doneA T) (fun σ => passAt tk σ) (pa_cons (pv 0) (pa_cons (pv 1) pa_nil)))))) (fun xa oe xcls xd pn xhz xhf => (pss_one (ps_set (i := 2) sc_l_kinds.nd rfl (Or.inl rfl) (pe_tup (pa_cons (pe_callB (call_isX xhz xhf) (by rfl) T.z_isinstance (by decide +kernel) (pa_cons (pv 3) (pa_cons (pe_bltn (v := .ty "ValueError") (by rfl) T.z_ValueError (by decide +kernel) rfl) pa_nil))) (pa_cons (pe_callB (call_isX xhz xhf) (by rfl) T.z_isinstance (by decide +kernel) (pa_cons (pv 3) (pa_cons (pe_glob (v := .ref (He.ga K "NoScript")) (by rfl) T.gc_NoScript rfl) pa_nil))) (pa_cons (pe_callB (call_isX xhz xhf) (by rfl) T.z_isinstance (by decide +kernel) (pa_cons (pv 3) (pa_cons (pe_glob (v := .ref (He.ga K "BadRow")) (by rfl) T.gc_BadRow rfl) pa_nil))) pa_nil))))))))
      (pss_one (ps_ret (pv 2)))))
theorem b_law (T : Tx K mg) : Binds K T.fd_law ["_law_script_here"] [] := T.F_law.bindsN fun _ _ _ _ _ _ us hl => match us, hl with | [_], _ => rfl
theorem ok_law (T : Tx K mg) : FnOk P w K mg base CX0 11 (He.fAd K ("law", none)) T.fd_law ["_law_script_here"] (sp_law K) := by
  refine T.F_law.ok sc_law (fun vs H Q E h => len_law h) (fun cdv A outer s H vs Q E hr h => ⟨t_law K, PSs.nox ?_, pure_law T.more h⟩)
  exact (pss_cons (ps_set (i := 1) sc_law.nd rfl (Or.inl rfl) (pe_call (ok_l_deck T) (hr.mono (by decide)) (by rfl) T.g_l_deck T.F_l_deck.kp (b_l_deck T) .nil pass0 (pa_cons (pv 0) pa_nil)))
      (pss_cons (ps_set (i := 2) sc_law.nd rfl (Or.inl rfl) (pe_call (ok_l_stock T) (hr.mono (by decide)) (by rfl) T.g_l_stock T.F_l_stock.kp (b_l_stock T) .nil pass0 (pa_cons (pv 1) pa_nil)))
      (pss_cons (ps_for PassesOwn.never rfl (pi_range1 (by rfl) T.z_range (pa_cons (pe_op op_add pe_int (pe_op op_fdivW (pe_callB (call_min2 rfl) (by rfl) T.z_min (by decide +kernel) (pa_cons (pe_callB call_len (by rfl) T.z_len PySem.boot_len (pa_cons (pv 0) pa_nil)) (pa_cons pe_int pa_nil))) pe_int)) pa_nil)) (pg_name (i := 3) sc_law.nd rfl (Or.inl rfl)) (pss_cons (ps_set (i := 4) sc_law.nd rfl (Or.inl rfl) (pe_call (ok_l_draw T) (hr.mono (by decide)) (by rfl) T.g_l_draw T.F_l_draw.kp (b_l_draw T) .nil pass0 (pa_cons (pv 1) (pa_cons pe_int pa_nil))))
      (pss_cons (ps_set (i := 5) sc_law.nd rfl (Or.inl rfl) (pe_call (ok_l_lines T) (hr.mono (by decide)) (by rfl) T.g_l_lines T.F_l_lines.kp (b_l_lines T) .nil pass0 (pa_cons (pv 1) (pa_cons (pv 2) (pa_cons (pe_call (ok_l_most T) (hr.mono (by decide)) (by rfl) T.g_l_most T.F_l_most.kp (b_l_most T) .nil pass0 (pa_cons (pv 1) pa_nil)) pa_nil)))))
      (pss_cons (ps_set (i := 6) sc_law.nd rfl (Or.inl rfl) (pe_call (ok_l_script T) (hr.mono (by decide)) (by rfl) T.g_l_script T.F_l_script.kp (b_l_script T) .nil pass0 (pa_cons (pv 1) (pa_cons (pv 5) (pa_cons (pv 2) (pa_cons (pe_call (ok_l_most T) (hr.mono (by decide)) (by rfl) T.g_l_most T.F_l_most.kp (b_l_most T) .nil pass0 (pa_cons (pv 1) pa_nil)) pa_nil))))))
      (pss_cons (ps_set (i := 7) sc_law.nd rfl (Or.inl rfl) (pe_call (ok_l_spoiled T) (hr.mono (by decide)) (by rfl) T.g_l_spoiled T.F_l_spoiled.kp (b_l_spoiled T) .nil pass0 (pa_cons (pv 1) (pa_cons (pv 6) (pa_cons (pv 4) pa_nil)))))
      (pss_cons (ps_if (pt_cmpR op_eq (pe_call (ok_l_draw T) (hr.mono (by decide)) (by rfl) T.g_l_draw T.F_l_draw.kp (b_l_draw T) .nil pass0 (pa_cons (pv 1) (pa_cons pe_int pa_nil))) pe_int (nomark _)) (pss_one (ps_set (i := 5) sc_law.nd rfl (Or.inl rfl) (pe_slice sl_tupA (pv 5) po_none (po_some (pe_call (ok_l_draw T) (hr.mono (by decide)) (by rfl) T.g_l_draw T.F_l_draw.kp (b_l_draw T) .nil pass0 (pa_cons (pv 1) (pa_cons (pe_op op_add (pe_callB call_len (by rfl) T.z_len PySem.boot_len (pa_cons (pv 5) pa_nil)) pe_int) pa_nil))))))) pss_nil)
      (pss_cons (ps_set (i := 8) sc_law.nd rfl (Or.inl rfl) (pe_call (ok_l_fitsA T) (hr.mono (by decide)) (by rfl) T.g_l_fitsA T.F_l_fitsA.kp (b_l_fitsA T) .nil pass0 (pa_cons (pv 5) (pa_cons (pv 7) pa_nil))))
      (pss_cons (ps_set (i := 9) sc_law.nd rfl (Or.inl rfl) (pe_tup (pa_cons pe_str pa_nil)))
      (pss_cons (ps_if (pt_val (pv 8)) (pss_one (ps_set (i := 9) sc_law.nd rfl (Or.inl rfl) (pe_tup (pa_cons pe_str (pa_cons (pe_call (ok_l_made T) (hr.mono (by decide)) (by rfl) T.g_l_made T.F_l_made.kp (b_l_made T) .nil pass0 (pa_cons (pv 5) (pa_cons (pv 7) pa_nil))) pa_nil))))) pss_nil)
      (pss_cons (ps_if (pt_not (pt_val (pe_call (ok_l_same T) (hr.mono (by decide)) (by rfl) T.g_l_same T.F_l_same.kp (b_l_same T) .nil pass0 (pa_cons (pe_call (ok_l_done T) (hr.mono (by decide)) (by rfl) T.g_l_done T.F_l_done.kp (b_l_done T) .nil pass0 (pa_cons (pv 5) (pa_cons (pv 7) pa_nil))) (pa_cons (pv 9) pa_nil))))) (pss_one (ps_ret pe_bl)) pss_nil)
      (pss_cons (ps_if (PW.pt (pw_and (pt_not (pt_val (pv 8))) (pw_and1 (pt_cmpR (op_neD hr.units) (pe_call (ok_l_kinds T) (hr.mono (by decide)) (by rfl) T.g_l_kinds T.F_l_kinds.kp (b_l_kinds T) .nil pass0 (pa_cons (pv 5) (pa_cons (pv 7) pa_nil))) (pe_tup (pa_cons pe_bl (pa_cons pe_bl (pa_cons pe_bl pa_nil)))) (nomark _))))) (pss_one (ps_ret pe_bl)) pss_nil)
      (pss_cons (ps_set (i := 9) sc_law.nd rfl (Or.inl rfl) (pe_tup (pa_cons pe_str pa_nil)))
      (pss_cons (ps_if (pt_val (pe_call (ok_l_is_scriptA T) (hr.mono (by decide)) (by rfl) T.g_l_is_scriptA T.F_l_is_scriptA.kp (b_l_is_scriptA T) .nil pass0 (pa_cons (pv 7) pa_nil))) (pss_one (ps_set (i := 9) sc_law.nd rfl (Or.inl rfl) (pe_tup (pa_cons pe_str (pa_cons (pe_call (ok_l_cost T) (hr.mono (by decide)) (by rfl) T.g_l_cost T.F_l_cost.kp (b_l_cost T) .nil pass0 (pa_cons (pv 7) (pa_cons pe_int (pa_cons pe_int pa_nil)))) pa_nil))))) pss_nil)
      (pss_cons (ps_if (pt_not (pt_val (pe_call (ok_l_same T) (hr.mono (by decide)) (by rfl) T.g_l_same T.F_l_same.kp (b_l_same T) .nil pass0 (pa_cons (pe_call (ok_l_priced T) (hr.mono (by decide)) (by rfl) T.g_l_priced T.F_l_priced.kp (b_l_priced T) .nil pass0 (pa_cons (pv 7) pa_nil)) (pa_cons (pv 9) pa_nil))))) (pss_one (ps_ret pe_bl)) pss_nil)
      (pss_cons (ps_set (i := 10) sc_law.nd rfl (Or.inl rfl) (pe_tup pa_nil))
      (pss_cons (ps_if (pt_cmpR op_gt (pe_callB call_len (by rfl) T.z_len PySem.boot_len (pa_cons (pv 5) pa_nil)) pe_int (nomark _)) (pss_one (ps_set (i := 10) sc_law.nd rfl (Or.inl rfl) (pe_tup (pa_cons (pe_tup (pa_cons pe_str (pa_cons (pv 5) pa_nil))) pa_nil)))) pss_nil)
      (pss_one (ps_if (PW.pt (pw_or (pt_cmpR op_ne (pe_call (ok_l_joins T) (hr.mono (by decide)) (by rfl) T.g_l_joins T.F_l_joins.kp (b_l_joins T) .nil pass0 (pa_cons (pv 5) (pa_cons (pv 7) (pa_cons (pe_tup pa_nil) pa_nil)))) (pv 8) (nomark _)) (pw_or1 (pt_cmpR op_ne (pe_call (ok_l_joins T) (hr.mono (by decide)) (by rfl) T.g_l_joins T.F_l_joins.kp (b_l_joins T) .nil pass0 (pa_cons (pe_callTy call_tuple_of (by rfl) T.z_tuple (by decide +kernel) (pa_cons (pe_slice sl_list (pv 2) po_none (po_some pe_int)) pa_nil)) (pa_cons (pv 10) (pa_cons (pv 7) pa_nil)))) (pv 8) (nomark _))))) (pss_one (ps_ret pe_bl)) pss_nil))))))))))))))))))
      (pss_one (ps_ret pe_bl)))))
end
def d_is_intA : He.DefD := ⟨("is_int", none), "is_int", "is_int", defArgs s_is_intA, defBody s_is_intA, defScope s_is_intA, [], []⟩
def d_is_signA : He.DefD := ⟨("is_sign", none), "is_sign", "is_sign", defArgs s_is_signA, defBody s_is_signA, defScope s_is_signA, [], []⟩
def d_is_textA : He.DefD := ⟨("is_text", none), "is_text", "is_text", defArgs s_is_textA, defBody s_is_textA, defScope s_is_textA, [], []⟩
def d_is_pairA : He.DefD := ⟨("is_pair", none), "is_pair", "is_pair", defArgs s_is_pairA, defBody s_is_pairA, defScope s_is_pairA, [], []⟩
def d_is_rowA : He.DefD := ⟨("is_row", none), "is_row", "is_row", defArgs s_is_rowA, defBody s_is_rowA, defScope s_is_rowA, [], []⟩
def d_are_putA : He.DefD := ⟨("are_put", none), "are_put", "are_put", defArgs s_are_putA, defBody s_are_putA, defScope s_are_putA, [], []⟩
def d_rows_in : He.DefD := ⟨("rows_in", none), "rows_in", "rows_in", defArgs s_rows_in, defBody s_rows_in, defScope s_rows_in, [], []⟩
def d_is_pieceA : He.DefD := ⟨("is_piece", none), "is_piece", "is_piece", defArgs s_is_pieceA, defBody s_is_pieceA, defScope s_is_pieceA, [], []⟩
def d_is_scriptA : He.DefD := ⟨("is_script", none), "is_script", "is_script", defArgs s_is_scriptA, defBody s_is_scriptA, defScope s_is_scriptA, [], []⟩
def d_is_right_overA : He.DefD := ⟨("is_right_over", none), "is_right_over", "is_right_over", defArgs s_is_right_overA, defBody s_is_right_overA, defScope s_is_right_overA, [], []⟩
def d_refuse_wrongA : He.DefD := ⟨("refuse_wrong", none), "refuse_wrong", "refuse_wrong", defArgs s_refuse_wrongA, defBody s_refuse_wrongA, defScope s_refuse_wrongA, [], []⟩
def d_made : He.DefD := ⟨("made", none), "made", "made", defArgs s_made, defBody s_made, defScope s_made, [], []⟩
def d_doneA : He.DefD := ⟨("done", none), "done", "done", defArgs s_doneA, defBody s_doneA, defScope s_doneA, [], []⟩
def d_priceA : He.DefD := ⟨("price", none), "price", "price", defArgs s_priceA, defBody s_priceA, defScope s_priceA, [], [("take", .int 3), ("put", .int 2)]⟩
def d_cut_piece : He.DefD := ⟨("cut_piece", none), "cut_piece", "cut_piece", defArgs s_cut_piece, defBody s_cut_piece, defScope s_cut_piece, [], []⟩
def d_part_of : He.DefD := ⟨("part_of", none), "part_of", "part_of", defArgs s_part_of, defBody s_part_of, defScope s_part_of, [], []⟩
def d_joinedA : He.DefD := ⟨("joined", none), "joined", "joined", defArgs s_joinedA, defBody s_joinedA, defScope s_joinedA, [], []⟩
def d_l_deck : He.DefD := ⟨("_law_deck", none), "_law_deck", "_law_deck", defArgs s_l_deck, defBody s_l_deck, defScope s_l_deck, [], []⟩
def d_l_mixed : He.DefD := ⟨("_law_mixed", none), "_law_mixed", "_law_mixed", defArgs s_l_mixed, defBody s_l_mixed, defScope s_l_mixed, [], []⟩
def d_l_draw : He.DefD := ⟨("_law_draw", none), "_law_draw", "_law_draw", defArgs s_l_draw, defBody s_l_draw, defScope s_l_draw, [], []⟩
def d_l_text : He.DefD := ⟨("_law_text", none), "_law_text", "_law_text", defArgs s_l_text, defBody s_l_text, defScope s_l_text, [], []⟩
def d_l_int : He.DefD := ⟨("_law_int", none), "_law_int", "_law_int", defArgs s_l_int, defBody s_l_int, defScope s_l_int, [], []⟩
def d_l_same : He.DefD := ⟨("_law_same", none), "_law_same", "_law_same", defArgs s_l_same, defBody s_l_same, defScope s_l_same, [], []⟩
def d_l_stock : He.DefD := ⟨("_law_stock", none), "_law_stock", "_law_stock", defArgs s_l_stock, defBody s_l_stock, defScope s_l_stock, [], []⟩
def d_l_lines : He.DefD := ⟨("_law_lines", none), "_law_lines", "_law_lines", defArgs s_l_lines, defBody s_l_lines, defScope s_l_lines, [], []⟩
def d_l_most : He.DefD := ⟨("_law_most", none), "_law_most", "_law_most", defArgs s_l_most, defBody s_l_most, defScope s_l_most, [], []⟩
def d_l_script : He.DefD := ⟨("_law_script", none), "_law_script", "_law_script", defArgs s_l_script, defBody s_l_script, defScope s_l_script, [], []⟩
def d_l_made : He.DefD := ⟨("_law_made", none), "_law_made", "_law_made", defArgs s_l_made, defBody s_l_made, defScope s_l_made, [], []⟩
def d_l_cost : He.DefD := ⟨("_law_cost", none), "_law_cost", "_law_cost", defArgs s_l_cost, defBody s_l_cost, defScope s_l_cost, [], []⟩
def d_l_is_lineA : He.DefD := ⟨("_law_is_line", none), "_law_is_line", "_law_is_line", defArgs s_l_is_lineA, defBody s_l_is_lineA, defScope s_l_is_lineA, [], []⟩
def d_l_sizeA : He.DefD := ⟨("_law_size", none), "_law_size", "_law_size", defArgs s_l_sizeA, defBody s_l_sizeA, defScope s_l_sizeA, [], []⟩
def d_l_is_scriptA : He.DefD := ⟨("_law_is_script", none), "_law_is_script", "_law_is_script", defArgs s_l_is_scriptA, defBody s_l_is_scriptA, defScope s_l_is_scriptA, [], []⟩
def d_l_fitsA : He.DefD := ⟨("_law_fits", none), "_law_fits", "_law_fits", defArgs s_l_fitsA, defBody s_l_fitsA, defScope s_l_fitsA, [], []⟩
def d_l_odd : He.DefD := ⟨("_law_odd", none), "_law_odd", "_law_odd", defArgs s_l_odd, defBody s_l_odd, defScope s_l_odd, [], []⟩
def d_l_bent : He.DefD := ⟨("_law_bent", none), "_law_bent", "_law_bent", defArgs s_l_bent, defBody s_l_bent, defScope s_l_bent, [], []⟩
def d_l_spoiled : He.DefD := ⟨("_law_spoiled", none), "_law_spoiled", "_law_spoiled", defArgs s_l_spoiled, defBody s_l_spoiled, defScope s_l_spoiled, [], []⟩
def d_l_done : He.DefD := ⟨("_law_done", none), "_law_done", "_law_done", defArgs s_l_done, defBody s_l_done, defScope s_l_done, [], []⟩
def d_l_priced : He.DefD := ⟨("_law_priced", none), "_law_priced", "_law_priced", defArgs s_l_priced, defBody s_l_priced, defScope s_l_priced, [], []⟩
def d_l_joins : He.DefD := ⟨("_law_joins", none), "_law_joins", "_law_joins", defArgs s_l_joins, defBody s_l_joins, defScope s_l_joins, [], []⟩
def d_l_kinds : He.DefD := ⟨("_law_kinds", none), "_law_kinds", "_law_kinds", defArgs s_l_kinds, defBody s_l_kinds, defScope s_l_kinds, [], []⟩
def d_law : He.DefD := ⟨("law", none), "law", "law", defArgs s_law, defBody s_law, defScope s_law, [], []⟩
def fn : List He.DefD := [d_is_intA, d_is_signA, d_is_textA, d_is_pairA, d_is_rowA, d_are_putA, d_rows_in, d_is_pieceA, d_is_scriptA, d_is_right_overA, d_refuse_wrongA, d_made, d_doneA, d_priceA, d_cut_piece, d_part_of, d_joinedA, d_l_deck, d_l_mixed, d_l_draw, d_l_text, d_l_int, d_l_same, d_l_stock, d_l_lines, d_l_most, d_l_script, d_l_made, d_l_cost, d_l_is_lineA, d_l_sizeA, d_l_is_scriptA, d_l_fitsA, d_l_odd, d_l_bent, d_l_spoiled, d_l_done, d_l_priced, d_l_joins, d_l_kinds, d_law]
def fa : List He.Fa := [.glo "is_int", .glo "is_sign", .glo "is_text", .glo "is_pair", .glo "is_row", .glo "are_put", .glo "rows_in", .glo "is_piece", .glo "is_script", .glo "is_right_over", .glo "refuse_wrong", .glo "made", .glo "done", .glo "price", .glo "cut_piece", .glo "part_of", .glo "joined", .glo "_law_deck", .glo "_law_mixed", .glo "_law_draw", .glo "_law_text", .glo "_law_int", .glo "_law_same", .glo "_law_stock", .glo "_law_lines", .glo "_law_most", .glo "_law_script", .glo "_law_made", .glo "_law_cost", .glo "_law_is_line", .glo "_law_size", .glo "_law_is_script", .glo "_law_fits", .glo "_law_odd", .glo "_law_bent", .glo "_law_spoiled", .glo "_law_done", .glo "_law_priced", .glo "_law_joins", .glo "_law_kinds", .glo "law", .free "ValueError", .free "all", .free "bool", .free "dict", .free "int", .free "isinstance", .free "len", .free "list", .free "max", .free "min", .free "ord", .free "range", .free "str", .free "sum", .free "tuple", .int "BARRED_SIGN" 37, .int "MOST_ROWS" 40, .int "MOST_SIGNS" 40, .int "PUT" 2, .int "TAKE" 3, .glo "HouseError", .glo "NoScript", .glo "BadRow", .exc "NoScript"]
abbrev R : PySem.W.OpenRow := PySem.W.OpenLaw.row PySem.Challenge.rw_fewasks_k37_no_script
abbrev hk : PySem.W.Hook := Fw.hookY 4 fa fn Fw.exB37
def ob (s : PySem.W.SharedT) : Fw.AlY := Fw.obsYG 4 fa fn Fw.exB37 (HandSHeadRun.getT s)
theorem ob_eq (s : PySem.W.SharedT) : ob s = hk.obs s.abs := Fw.obsYG_eq (HandSHeadRun.getT_eq s)
def loose : List Str := [("HouseError" : Str), ("NoScript" : Str), ("BadRow" : Str), ("is_int" : Str), ("is_text" : Str), ("is_sign" : Str), ("is_pair" : Str), ("is_row" : Str), ("is_script" : Str), ("is_piece" : Str), ("are_put" : Str), ("rows_in" : Str), ("is_right_over" : Str), ("refuse_wrong" : Str), ("done" : Str), ("made" : Str), ("price" : Str), ("joined" : Str), ("part_of" : Str), ("cut_piece" : Str), ("_law_deck" : Str), ("_law_mixed" : Str), ("_law_draw" : Str), ("_law_text" : Str), ("_law_int" : Str), ("_law_same" : Str), ("_law_stock" : Str), ("_law_lines" : Str), ("_law_most" : Str), ("_law_script" : Str), ("_law_made" : Str), ("_law_cost" : Str), ("_law_is_line" : Str), ("_law_size" : Str), ("_law_is_script" : Str), ("_law_fits" : Str), ("_law_odd" : Str), ("_law_bent" : Str), ("_law_spoiled" : Str), ("_law_done" : Str), ("_law_priced" : Str), ("_law_joins" : Str), ("_law_kinds" : Str), ("BARRED_SIGN" : Str), ("MOST_ROWS" : Str), ("MOST_SIGNS" : Str), ("PUT" : Str), ("TAKE" : Str)]
theorem run (w : World) : HandSHeadRun.RunEq R (PySem.W.view R.prog [52]) hk ob 4000 loose w := by
  intro os
  kernel_rfl
theorem facts {P : Program} {w : World} {K : PySem.W.Frag} {h : Heap} {mg : Str → Option Value} {f : Addr} (X : K.In h) (G : h.Ns mainGlobals mg) (hfa : mg ("law" : Str) = some (.ref f)) (c : He.SaysD fa fn K) (m : Fw.exB37 K = true) :
    ∃ fd : FuncData, (∀ (s : Shared) (v : Value), BindsTo s fd ⟨[v], []⟩ [("_law_script_here", v)]) ∧ ∀ base : Heap, K.In base → base.Ns mainGlobals mg → FnOk P w K mg base CX0 11 f fd ["_law_script_here"] (sp_law K) := by
  obtain ⟨fd0, F0⟩ := c.def_ 0 (d := d_is_intA) rfl
  obtain ⟨fd1, F1⟩ := c.def_ 1 (d := d_is_signA) rfl
  obtain ⟨fd2, F2⟩ := c.def_ 2 (d := d_is_textA) rfl
  obtain ⟨fd3, F3⟩ := c.def_ 3 (d := d_is_pairA) rfl
  obtain ⟨fd4, F4⟩ := c.def_ 4 (d := d_is_rowA) rfl
  obtain ⟨fd5, F5⟩ := c.def_ 5 (d := d_are_putA) rfl
  obtain ⟨fd6, F6⟩ := c.def_ 6 (d := d_rows_in) rfl
  obtain ⟨fd7, F7⟩ := c.def_ 7 (d := d_is_pieceA) rfl
  obtain ⟨fd8, F8⟩ := c.def_ 8 (d := d_is_scriptA) rfl
  obtain ⟨fd9, F9⟩ := c.def_ 9 (d := d_is_right_overA) rfl
  obtain ⟨fd10, F10⟩ := c.def_ 10 (d := d_refuse_wrongA) rfl
  obtain ⟨fd11, F11⟩ := c.def_ 11 (d := d_made) rfl
  obtain ⟨fd12, F12⟩ := c.def_ 12 (d := d_doneA) rfl
  obtain ⟨fd13, F13⟩ := c.def_ 13 (d := d_priceA) rfl
  obtain ⟨fd14, F14⟩ := c.def_ 14 (d := d_cut_piece) rfl
  obtain ⟨fd15, F15⟩ := c.def_ 15 (d := d_part_of) rfl
  obtain ⟨fd16, F16⟩ := c.def_ 16 (d := d_joinedA) rfl
  obtain ⟨fd17, F17⟩ := c.def_ 17 (d := d_l_deck) rfl
  obtain ⟨fd18, F18⟩ := c.def_ 18 (d := d_l_mixed) rfl
  obtain ⟨fd19, F19⟩ := c.def_ 19 (d := d_l_draw) rfl
  obtain ⟨fd20, F20⟩ := c.def_ 20 (d := d_l_text) rfl
  obtain ⟨fd21, F21⟩ := c.def_ 21 (d := d_l_int) rfl
  obtain ⟨fd22, F22⟩ := c.def_ 22 (d := d_l_same) rfl
  obtain ⟨fd23, F23⟩ := c.def_ 23 (d := d_l_stock) rfl
  obtain ⟨fd24, F24⟩ := c.def_ 24 (d := d_l_lines) rfl
  obtain ⟨fd25, F25⟩ := c.def_ 25 (d := d_l_most) rfl
  obtain ⟨fd26, F26⟩ := c.def_ 26 (d := d_l_script) rfl
  obtain ⟨fd27, F27⟩ := c.def_ 27 (d := d_l_made) rfl
  obtain ⟨fd28, F28⟩ := c.def_ 28 (d := d_l_cost) rfl
  obtain ⟨fd29, F29⟩ := c.def_ 29 (d := d_l_is_lineA) rfl
  obtain ⟨fd30, F30⟩ := c.def_ 30 (d := d_l_sizeA) rfl
  obtain ⟨fd31, F31⟩ := c.def_ 31 (d := d_l_is_scriptA) rfl
  obtain ⟨fd32, F32⟩ := c.def_ 32 (d := d_l_fitsA) rfl
  obtain ⟨fd33, F33⟩ := c.def_ 33 (d := d_l_odd) rfl
  obtain ⟨fd34, F34⟩ := c.def_ 34 (d := d_l_bent) rfl
  obtain ⟨fd35, F35⟩ := c.def_ 35 (d := d_l_spoiled) rfl
  obtain ⟨fd36, F36⟩ := c.def_ 36 (d := d_l_done) rfl
  obtain ⟨fd37, F37⟩ := c.def_ 37 (d := d_l_priced) rfl
  obtain ⟨fd38, F38⟩ := c.def_ 38 (d := d_l_joins) rfl
  obtain ⟨fd39, F39⟩ := c.def_ 39 (d := d_l_kinds) rfl
  obtain ⟨fd40, F40⟩ := c.def_ 40 (d := d_law) rfl
  have e := hfa.symm.trans (He.glo_ok X G (c.fact 40 (f := .glo "law") rfl))
  cases e
  have b := FunD.bindsA (ps := ["_law_script_here"]) F40 fun _ _ _ _ _ _ us hl => match us, hl with | [_], _ => rfl
  exact ⟨fd40, fun s v => b s [v] rfl, fun base _ _ => ok_law (⟨fd0, F0, (He.glo_ok X G (c.fact 0 (f := .glo "is_int") rfl)), fd1, F1, (He.glo_ok X G (c.fact 1 (f := .glo "is_sign") rfl)), fd2, F2, (He.glo_ok X G (c.fact 2 (f := .glo "is_text") rfl)), fd3, F3, (He.glo_ok X G (c.fact 3 (f := .glo "is_pair") rfl)), fd4, F4, (He.glo_ok X G (c.fact 4 (f := .glo "is_row") rfl)), fd5, F5, (He.glo_ok X G (c.fact 5 (f := .glo "are_put") rfl)), fd6, F6, (He.glo_ok X G (c.fact 6 (f := .glo "rows_in") rfl)), fd7, F7, (He.glo_ok X G (c.fact 7 (f := .glo "is_piece") rfl)), fd8, F8, (He.glo_ok X G (c.fact 8 (f := .glo "is_script") rfl)), fd9, F9, (He.glo_ok X G (c.fact 9 (f := .glo "is_right_over") rfl)), fd10, F10, (He.glo_ok X G (c.fact 10 (f := .glo "refuse_wrong") rfl)), fd11, F11, (He.glo_ok X G (c.fact 11 (f := .glo "made") rfl)), fd12, F12, (He.glo_ok X G (c.fact 12 (f := .glo "done") rfl)), fd13, F13, (He.glo_ok X G (c.fact 13 (f := .glo "price") rfl)), fd14, F14, (He.glo_ok X G (c.fact 14 (f := .glo "cut_piece") rfl)), fd15, F15, (He.glo_ok X G (c.fact 15 (f := .glo "part_of") rfl)), fd16, F16, (He.glo_ok X G (c.fact 16 (f := .glo "joined") rfl)), fd17, F17, (He.glo_ok X G (c.fact 17 (f := .glo "_law_deck") rfl)), fd18, F18, (He.glo_ok X G (c.fact 18 (f := .glo "_law_mixed") rfl)), fd19, F19, (He.glo_ok X G (c.fact 19 (f := .glo "_law_draw") rfl)), fd20, F20, (He.glo_ok X G (c.fact 20 (f := .glo "_law_text") rfl)), fd21, F21, (He.glo_ok X G (c.fact 21 (f := .glo "_law_int") rfl)), fd22, F22, (He.glo_ok X G (c.fact 22 (f := .glo "_law_same") rfl)), fd23, F23, (He.glo_ok X G (c.fact 23 (f := .glo "_law_stock") rfl)), fd24, F24, (He.glo_ok X G (c.fact 24 (f := .glo "_law_lines") rfl)), fd25, F25, (He.glo_ok X G (c.fact 25 (f := .glo "_law_most") rfl)), fd26, F26, (He.glo_ok X G (c.fact 26 (f := .glo "_law_script") rfl)), fd27, F27, (He.glo_ok X G (c.fact 27 (f := .glo "_law_made") rfl)), fd28, F28, (He.glo_ok X G (c.fact 28 (f := .glo "_law_cost") rfl)), fd29, F29, (He.glo_ok X G (c.fact 29 (f := .glo "_law_is_line") rfl)), fd30, F30, (He.glo_ok X G (c.fact 30 (f := .glo "_law_size") rfl)), fd31, F31, (He.glo_ok X G (c.fact 31 (f := .glo "_law_is_script") rfl)), fd32, F32, (He.glo_ok X G (c.fact 32 (f := .glo "_law_fits") rfl)), fd33, F33, (He.glo_ok X G (c.fact 33 (f := .glo "_law_odd") rfl)), fd34, F34, (He.glo_ok X G (c.fact 34 (f := .glo "_law_bent") rfl)), fd35, F35, (He.glo_ok X G (c.fact 35 (f := .glo "_law_spoiled") rfl)), fd36, F36, (He.glo_ok X G (c.fact 36 (f := .glo "_law_done") rfl)), fd37, F37, (He.glo_ok X G (c.fact 37 (f := .glo "_law_priced") rfl)), fd38, F38, (He.glo_ok X G (c.fact 38 (f := .glo "_law_joins") rfl)), fd39, F39, (He.glo_ok X G (c.fact 39 (f := .glo "_law_kinds") rfl)), fd40, F40, (He.free_ok X G (c.fact 41 (f := .free "ValueError") rfl)), (He.free_ok X G (c.fact 42 (f := .free "all") rfl)), (He.free_ok X G (c.fact 43 (f := .free "bool") rfl)), (He.free_ok X G (c.fact 44 (f := .free "dict") rfl)), (He.free_ok X G (c.fact 45 (f := .free "int") rfl)), (He.free_ok X G (c.fact 46 (f := .free "isinstance") rfl)), (He.free_ok X G (c.fact 47 (f := .free "len") rfl)), (He.free_ok X G (c.fact 48 (f := .free "list") rfl)), (He.free_ok X G (c.fact 49 (f := .free "max") rfl)), (He.free_ok X G (c.fact 50 (f := .free "min") rfl)), (He.free_ok X G (c.fact 51 (f := .free "ord") rfl)), (He.free_ok X G (c.fact 52 (f := .free "range") rfl)), (He.free_ok X G (c.fact 53 (f := .free "str") rfl)), (He.free_ok X G (c.fact 54 (f := .free "sum") rfl)), (He.free_ok X G (c.fact 55 (f := .free "tuple") rfl)), (He.int_ok X G (c.fact 56 (f := .int "BARRED_SIGN" 37) rfl)), (He.int_ok X G (c.fact 57 (f := .int "MOST_ROWS" 40) rfl)), (He.int_ok X G (c.fact 58 (f := .int "MOST_SIGNS" 40) rfl)), (He.int_ok X G (c.fact 59 (f := .int "PUT" 2) rfl)), (He.int_ok X G (c.fact 60 (f := .int "TAKE" 3) rfl)), (He.glo_ok X G (c.fact 61 (f := .glo "HouseError") rfl)), (He.glo_ok X G (c.fact 62 (f := .glo "NoScript") rfl)), (He.glo_ok X G (c.fact 63 (f := .glo "BadRow") rfl)), (He.exc_ok (c.fact 64 (f := .exc "NoScript") rfl)), (Fw.kinds37_of m)⟩ : Tx K mg)⟩
end K37
open PySem PySem.W PySem.Calls PyProof.Rows
set_option maxRecDepth 100000 in
set_option maxHeartbeats 0 in
theorem PySem.Challenge.cw_fewasks_k37_no_script_holds : PySem.Challenge.rw_fewasks_k37_no_script.Holds := by
  w_on; o_law
  refine HandSHeadRun.head_any (r := OpenLaw.row PySem.Challenge.rw_fewasks_k37_no_script) (q := view (OpenLaw.row PySem.Challenge.rw_fewasks_k37_no_script).prog [52]) (H := K37.hk) (ob := K37.ob) (M := 4000) (loose := K37.loose) (d := HandSHeadRun.topDef (OpenLaw.row PySem.Challenge.rw_fewasks_k37_no_script).prog 52) (kwd := []) K37.ob_eq
    (by kernel_rfl) (fun s => by kernel_rfl) K37.run (by kernel_rfl) (by kernel_rfl) (by kernel_rfl) (by rfl) (by first | assumption | decide +kernel) (by decide +kernel) ⟨rfl, rfl, rfl, rfl, rfl, by decide +kernel⟩ ?hw ?hc
  case hw => w_witness2
  case hc =>
    refine L2.walk_ofE (l := PySem.Challenge.rw_fewasks_k37_no_script) (n := 63) (k := 11) (x := "_law_script_here") (CX := L2.CX0) rfl (by decide) (by kernel_rfl) ⟨rfl, by decide, by decide⟩ ?F (fun _ _ _ _ z => z)
    intro w mg fa h Y G hmg0
    obtain ⟨K, KX, c, m⟩ := Y
    have hmg : mg ("law" : PySem.Str) = some (.ref fa) := by
      have e : (HandSHeadRun.topDef (OpenLaw.row PySem.Challenge.rw_fewasks_k37_no_script).prog 52).name = ("law" : PySem.Str) := by kernel_rfl
      rw [← e]
      exact hmg0
    obtain ⟨fd, hb, hF⟩ := K37.facts (P := (PySem.Challenge.rw_fewasks_k37_no_script).prog) (w := w) KX G hmg c m
    exact ⟨K, fd, Fw.sp_law K, KX, hb, fun H a ns hl _ hS => ⟨a, ns, rfl, hS, hl, fun _ => rfl⟩, hF⟩
