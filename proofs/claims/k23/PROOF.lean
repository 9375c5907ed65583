import PyProof.Rows.All
import Wide.All
import OpenK.AllK
import Wide.FinOn
import KE.KStateDown
import HandS.ForMost
import HandS.IsInst
import HandS.Conv
import HandS.Wide
import HandS.WideBits
import HandS.SortInts
import HandS.DictComp
import HandS.Zip
import HandS.Rev
import HandS.Flow
import HandS.Steps
import HandS.Defaults
import HandS.Head0
import HandS.Head1
import HandS.Head2
import HandS.HeadEnd
import HandS.HeadHook1
import HandS.HeadHook2
import HandS.TupAny
import HandS.TupLe
import HandS.Style
import HandS.ExcInit
import HandS.ClsMeth
import HandS.Exc
import HandS.ExcOwn
import HandS.WordsExc
import HandS.SortKw
import HandS.More
import HandS.Walk
import HandS.SetKeys
import HandS.TryOnly
import HandS.Deep
import HandS.DictEq
import HandS.ListEq
import HandS.TupMul
import HandS.ExcIs
import HandS.ExcField
import HandS.CallSlots
import KE.KExcIs
import KE.KTryMore
import PyProof.Rows.RuleIs
import KE.DatumOrd
import KE.DataEq
import PySem.Challenge.RW_fewasks_k23_papers_looked_at
set_option Elab.async false
set_option linter.all false
set_option maxRecDepth 100000
set_option maxHeartbeats 4000000
namespace Fw
open PySem L2 RZ RT
/-! ### readings by name -/
abbrev rAddI : R2 := rI0 fun i j => .int (i + j)
abbrev rSubI : R2 := rI0 fun i j => .int (i - j)
abbrev rMulI : R2 := rI CMul fun i j => .int (i * j)
abbrev rDivI : R2 := rI CDivW fun i j => .int (i / j)
abbrev rModI : R2 := rI (fun _ j => 0 < j) fun i j => .int (i % j)
abbrev rPowI : R2 := rI CPow fun i j => .int (i ^ j.toNat)
abbrev rLtI : R2 := rI0 fun i j => .bl (decide (i < j))
abbrev rLeI : R2 := rI0 fun i j => .bl (decide (i ≤ j))
abbrev rGtI : R2 := rI0 fun i j => .bl (decide (j < i))
abbrev rGeI : R2 := rI0 fun i j => .bl (decide (j ≤ i))
abbrev rNegI : V → Hp → VK → Prop := rU fun i => .int (-i)
abbrev fIsN : R2 := fun x y H Q => y = .non ∧ Q (.bl (decide (x = .non))) H
abbrev fNotN : R2 := fun x y H Q => y = .non ∧ Q (.bl (!decide (x = .non))) H
def fLen (K : PySem.W.Frag) : List V → Hp → VK → Prop := fun xs H Q => ∃ x n, xs = [x] ∧ LenV K x H n ∧ Q (.int n) H
def fListOf (K : PySem.W.Frag) : List V → Hp → VK → Prop := fun xs H Q => ∃ p ys, xs = [.ref p] ∧ (SqL K H p ys ∨ SqT K H p ys) ∧ ∀ l, H l = none → Q (.ref l) (upd H l (.lst ys))
def fTupleOf (K : PySem.W.Frag) : List V → Hp → VK → Prop := fun xs H Q => ∃ p ys, xs = [.ref p] ∧ ((SqL K H p ys ∧ ∀ l, H l = none → Q (.ref l) (upd H l (.tup ys))) ∨ (SqT K H p ys ∧ Q (.ref p) H))
def fMin2 : List V → Hp → VK → Prop := fun xs H Q => ∃ i j, xs = [.int i, .int j] ∧ Q (.int (if j < i then j else i)) H
def fMax2 : List V → Hp → VK → Prop := fun xs H Q => ∃ i j, xs = [.int i, .int j] ∧ Q (.int (if j > i then j else i)) H
/-! ### steps -/
section
variable {K : PySem.W.Frag} {H : Hp} {p : Addr} {xs : List V} {i : Int} {v : V} {Q : VK}
theorem ixL (h : H p = some (.lst xs)) (ha : atI xs i = some v) (q : Q v H) : rIx K (.ref p) (.int i) H Q := .inl ⟨p, xs, i, v, rfl, rfl, .inl (.inl h), ha, q⟩
theorem ixT (h : H p = some (.tup xs)) (ha : atI xs i = some v) (q : Q v H) : rIx K (.ref p) (.int i) H Q := .inr (.inl ⟨p, xs, i, v, rfl, rfl, .inl (.inl h), ha, q⟩)
theorem lenL {σ : L2.St} (h : H p = some (.lst xs)) (q : Q (.int xs.length) H) : tNil σ H fun ys H2 => fLen K (.ref p :: ys) H2 Q := ⟨_, _, rfl, .inl ⟨xs, .inl (.inl h), rfl⟩, q⟩
theorem lenT {σ : L2.St} (h : H p = some (.tup xs)) (q : Q (.int xs.length) H) : tNil σ H fun ys H2 => fLen K (.ref p :: ys) H2 Q := ⟨_, _, rfl, .inr ⟨xs, .inl (.inl h), rfl⟩, q⟩
theorem sqL (h : H p = some (.lst xs)) : SqL K H p xs := .inl (.inl h)
theorem sqT (h : H p = some (.tup xs)) : SqT K H p xs := .inl (.inl h)
end
theorem updS {H : Hp} {a : Addr} {o : HO} : upd H a o a = some o := upd_same
theorem updN {H : Hp} {a b : Addr} {o : HO} {r : Option HO} (n : b ≠ a) (h : H b = r) : upd H a o b = r := by rw [upd_ne n]; exact h
theorem small100 {m : Int} (h : m.natAbs ≤ 1000000000000000000) : m.natAbs < 2 ^ 100 := Nat.lt_of_le_of_lt h (by decide)
/-- the number in a slot, as a measure -/
def slotN (k : Nat) (σ : L2.St) : Nat := match σ[k]? with
  | some (some (V.int n)) => n.toNat
  | _ => 0
theorem getLastD_of {l : List V} (h : l ≠ []) : l.getLastD .non = l.getLast h := by
  rw [List.getLastD_eq_getLast?, List.getLast?_eq_getLast h]
  rfl
theorem pow18 : (10 : Int) ^ (18 : Int).toNat = 1000000000000000000 := by decide
/-! ### the deck of a law -/
/-- the deck at D: the cells at c, the turn at most t -/
def Dk (c D : Addr) (ns : List Int) (t : Nat) (H : Hp) : Prop := c ≠ D ∧ H c = some (.lst (ns.map V.int)) ∧ ns.length ≤ 63 ∧
  ∃ i n u : Int, H D = some (.lst [.ref c, .int i, .int n, .int u]) ∧ 0 ≤ i ∧ i ≤ ns.length ∧ 0 ≤ n ∧ 0 ≤ u ∧ u ≤ t
def sp_l_deck (K : PySem.W.Frag) : Sp := fun vs H Q _ => ∃ (a : Addr) (ns : List Int), vs = [.ref a] ∧ SqL K H a (ns.map V.int) ∧ ns.length ≤ 63 ∧
  ∀ c D H', Same H H' → H c = none → H D = none → Dk c D ns 0 H' → Q (.ref D) H'
def sp_l_mixed (_ : PySem.W.Frag) : Sp := fun vs H Q _ => ∃ (c t : Int), vs = [.int c, .int t] ∧ 0 ≤ t ∧ t ≤ 1000000000 ∧ ∀ v : Int, Q (.int v) H
def sp_l_draw (_ : PySem.W.Frag) : Sp := fun vs H Q _ => ∃ (c D : Addr) (ns : List Int) (t : Nat) (m : Int), vs = [.ref D, .int m] ∧ Dk c D ns t H ∧ t < 1000000000 ∧ 0 < m ∧ m.natAbs < 2 ^ 100 ∧
  ∀ (v : Int) (H' : Hp), 0 ≤ v → v < m → Dk c D ns (t + 1) H' → (∀ b, b ≠ D → H' b = H b) → Q (.int v) H'
def sp_l_int (_ : PySem.W.Frag) : Sp := fun vs H Q _ => ∃ i : Int, vs = [.int i] ∧ Q (.bl true) H
abbrev N_l_deck : List Str := ["_law_script"]
def t_l_deck (K : PySem.W.Frag) : TS := (tRet (tLst (tCons (tCB (fListOf K) (tCons (tVar 0) tNil)) (tCons (tC (.int 0)) (tCons (tC (.int 0)) (tCons (tC (.int 0)) tNil))))))
abbrev N_l_mixed : List Str := ["_law_cell", "_law_turn"]
def t_l_mixed (K : PySem.W.Frag) : TS := (tRet (tOp rModI (tOp rPowI (tOp rAddI (tOp rAddI (tOp rModI (tVar 0) (tC (.int 2147483629))) (tOp rMulI (tVar 1) (tC (.int 1000003)))) (tC (.int 17))) (tC (.int 5))) (tC (.int 2147483647))))
abbrev N_l_draw : List Str := ["_law_deck_here", "_law_many", "_law_cells", "_law_found", "_law_number"]
def t_l_draw_in (K : PySem.W.Frag) : TS := (tSeq (tIfS (tTest (tOp rLtI (tOp (rIx K) (tVar 2) (tOp rSubI (tOp (rIx K) (tVar 0) (tC (.int 1))) (tC (.int 1)))) (tOp rPowI (tC (.int 10)) (tC (.int 18))))) (tRet (tOp rModI (tCall (sp_l_mixed K) [] E0 (tCons (tOp (rIx K) (tVar 2) (tOp rSubI (tOp (rIx K) (tVar 0) (tC (.int 1))) (tC (.int 1)))) (tCons (tOp (rIx K) (tVar 0) (tC (.int 3))) tNil))) (tVar 1))) tNext)
    (tAsg (tOp (rIx K) (tVar 2) (tOp rSubI (tOp (rIx K) (tVar 0) (tC (.int 1))) (tC (.int 1)))) (gSub (tVar 0) (tC (.int 2)) rSetL)))
def t_l_draw_last (K : PySem.W.Frag) : TS := (tRet (tOp rModI (tCall (sp_l_mixed K) [] E0 (tCons (tVar 4) (tCons (tOp (rIx K) (tVar 0) (tC (.int 3))) tNil))) (tVar 1)))
def t_l_draw_rest (K : PySem.W.Frag) : TS := (tSeq (tIfS (tTest (tOp rGtI (tOp (rIx K) (tVar 0) (tC (.int 2))) (tC (.int 0)))) (tSeq (tAsg (tOp rModI (tOp (rIx K) (tVar 0) (tC (.int 2))) (tVar 1)) (gName 3))
    (tSeq (tAsg (tOp rDivI (tOp (rIx K) (tVar 0) (tC (.int 2))) (tVar 1)) (gSub (tVar 0) (tC (.int 2)) rSetL))
    (tRet (tVar 3)))) tNext)
    (tSeq (tAsg (tOp rMulI (tOp (rIx K) (tVar 0) (tC (.int 3))) (tC (.int 48271))) (gName 4))
    (tSeq (tIfS (tTest (tOp rGtI (tCB (fLen K) (tCons (tVar 2) tNil)) (tC (.int 0)))) (tAsg (tOp rAddI (tVar 4) (tOp rModI (tOp (rIx K) (tVar 2) (tOp rModI (tOp rMulI (tOp (rIx K) (tVar 0) (tC (.int 3))) (tC (.int 7))) (tCB (fLen K) (tCons (tVar 2) tNil)))) (tC (.int 2147483629)))) (gName 4)) tNext)
    (t_l_draw_last K))))
def t_l_draw_mid (K : PySem.W.Frag) : TS := (tSeq (tIfS (tAnd (tTest (tOp rEq (tOp (rIx K) (tVar 0) (tC (.int 2))) (tC (.int 0)))) (tTest (tOp rLtI (tOp (rIx K) (tVar 0) (tC (.int 1))) (tCB (fLen K) (tCons (tVar 2) tNil))))) (tSeq (tAsg (tOp rAddI (tOp (rIx K) (tVar 0) (tC (.int 1))) (tC (.int 1))) (gSub (tVar 0) (tC (.int 1)) rSetL))
    (t_l_draw_in K)) tNext)
    (t_l_draw_rest K))
def t_l_draw (K : PySem.W.Frag) : TS := (tSeq (tAsg (tOp (rIx K) (tVar 0) (tC (.int 0))) (gName 2))
    (tSeq (tAsg (tOp rAddI (tOp (rIx K) (tVar 0) (tC (.int 3))) (tC (.int 1))) (gSub (tVar 0) (tC (.int 3)) rSetL))
    (t_l_draw_mid K)))
abbrev N_l_int : List Str := ["_law_thing"]
def t_l_int (K : PySem.W.Frag) : TS := (tRet (tAndV (tCB (rIsi K) (tCons (tVar 0) (tCons (tC (.ty "int")) tNil))) (tNotV (tCB (rIsi K) (tCons (tVar 0) (tCons (tC (.ty "bool")) tNil))))))
theorem pure_l_deck {K : PySem.W.Frag} {vs : List V} {H : Hp} {Q : VK} {E : XK} (h : sp_l_deck K vs H Q E) : t_l_deck K { nx := fun _ H' => Q .non H', rt := Q } (start N_l_deck vs) H := by
  obtain ⟨a, ns, rfl, hS, hl, k⟩ := h
  refine ⟨_, rfl, a, _, rfl, .inl hS, fun c nc => ⟨by show (4 : Nat) ≤ sizeLine; decide, fun D nD => ?_⟩⟩
  have ncD : c ≠ D := fun e => by rw [← e, updS] at nD; cases nD
  have nD0 : H D = none := by rw [upd_ne ncD.symm] at nD; exact nD
  refine k c D _ (fun b o e => updN (ne_of_none e nD0) (updN (ne_of_none e nc) e)) nc nD0 ⟨ncD, updN ncD updS, hl, 0, 0, 0, updS, Int.le_refl _, by omega, Int.le_refl _, Int.le_refl _, Int.le_refl _⟩
theorem pure_l_mixed {K : PySem.W.Frag} {vs : List V} {H : Hp} {Q : VK} {E : XK} (h : sp_l_mixed K vs H Q E) : t_l_mixed K { nx := fun _ H' => Q .non H', rt := Q } (start N_l_mixed vs) H := by
  obtain ⟨c, t, rfl, h0, h1, k⟩ := h
  refine ⟨_, rfl, _, _, rfl, rfl, (by show (0 : Int) < 2147483629; decide), _, rfl, _, _, rfl, rfl, .inr ⟨by decide, by decide⟩, _, _, rfl, rfl, _, _, rfl, rfl, _, _, rfl, rfl, ⟨by decide, by decide, ?_⟩, _, _, rfl, rfl, (by show (0 : Int) < 2147483647; decide), k _⟩
  have := Int.emod_nonneg c (show (2147483629 : Int) ≠ 0 by decide)
  have := Int.emod_lt_of_pos c (show (0 : Int) < 2147483629 by decide)
  omega
theorem pure_l_int {K : PySem.W.Frag} {vs : List V} {H : Hp} {Q : VK} {E : XK} (h : sp_l_int K vs H Q E) : t_l_int K { nx := fun _ H' => Q .non H', rt := Q } (start N_l_int vs) H := by
  obtain ⟨i, rfl, k⟩ := h
  refine ⟨_, rfl, _, _, _, _, true, rfl, .ty _, .base (.int i), kit_ty (by decide +kernel), _, rfl, iteT ?_⟩
  refine ⟨_, rfl, _, _, _, _, false, rfl, .ty _, .base (.int i), kit_ty (by decide +kernel), _, rfl, k⟩
theorem pure_l_draw {K : PySem.W.Frag} {vs : List V} {H : Hp} {Q : VK} {E : XK} (h : sp_l_draw K vs H Q E) : t_l_draw K { nx := fun _ H' => Q .non H', rt := Q } (start N_l_draw vs) H := by
  obtain ⟨c, D, ns, t, m, rfl, ⟨ncD, hc, hl, i, n, u, hD, i0, i1, n0, u0, u1⟩, ht, m0, m1, k⟩ := h
  have cells : ∀ {j : Int}, 0 ≤ j → j < ns.length → ∃ z : Int, atI (ns.map V.int) j = some (.int z) := fun {j} h0 h1 => by
    obtain ⟨q, rfl⟩ := Int.eq_ofNat_of_zero_le h0
    have hq : q < ns.length := by omega
    exact ⟨ns[q], atI_nat (by rw [List.getElem?_map, List.getElem?_eq_getElem hq]; rfl)⟩
  -- the rest, from any i and n
  have rest : ∀ (i n : Int) (H2 : Hp) (z3 z4 : Option V), 0 ≤ i → i ≤ ns.length → 0 ≤ n → H2 D = some (.lst [.ref c, .int i, .int n, .int (u + 1)]) → H2 c = some (.lst (ns.map V.int)) → (∀ b, b ≠ D → H2 b = H b) →
      t_l_draw_rest K { nx := fun _ H' => Q .non H', rt := Q } [some (.ref D), some (.int m), some (.ref c), z3, z4] H2 := by
    intro i n H2 z3 z4 i0 i1 n0 hD2 hc2 fr2
    have mod0 : ∀ x : Int, 0 ≤ x % m := fun x => Int.emod_nonneg x (by omega)
    have mod1 : ∀ x : Int, x % m < m := fun x => Int.emod_lt_of_pos x m0
    refine ⟨_, rfl, ixL hD2 rfl ⟨_, _, rfl, rfl, _, rfl, ite2 (fun e => ?_) (fun e => ?_)⟩⟩
    · have hn : 0 < n := of_decide_eq_true e
      refine ⟨_, rfl, ixL hD2 rfl ⟨_, rfl, _, _, rfl, rfl, m0, ?_⟩⟩
      refine ⟨_, rfl, ixL hD2 rfl ⟨_, rfl, _, _, rfl, rfl, wide_div m0 m1 (by decide) (by decide), _, rfl, D, _, _, 2, rfl, rfl, hD2, rfl, ?_⟩⟩
      refine ⟨_, rfl, k _ _ (mod0 n) (mod1 n) ⟨ncD, updN ncD hc2, hl, i, n / m, u + 1, updS, i0, i1, Int.ediv_nonneg n0 (by omega), by omega, by omega⟩ fun b nb => (upd_ne nb).trans (fr2 b nb)⟩
    · refine ⟨_, rfl, ixL hD2 rfl ⟨_, _, rfl, rfl, .inr ⟨by decide, by decide⟩, ?_⟩⟩
      have last : ∀ (y : Int), t_l_draw_last K { nx := fun _ H' => Q .non H', rt := Q } [some (.ref D), some (.int m), some (.ref c), z3, some (.int y)] H2 := fun y => by
        refine ⟨_, rfl, _, rfl, ixL hD2 rfl ⟨y, u + 1, rfl, by omega, by omega, fun v => ?_⟩⟩
        refine ⟨_, rfl, _, _, rfl, rfl, m0, k _ _ (mod0 v) (mod1 v) ⟨ncD, hc2, hl, i, n, u + 1, hD2, i0, i1, n0, by omega, by omega⟩ fr2⟩
      refine ⟨_, rfl, lenL hc2 ⟨_, _, rfl, rfl, _, rfl, ite2 (fun e => ?_) (fun e => ?_)⟩⟩
      · have hn : 0 < ns.length := by
          have q : (0 : Int) < (ns.map V.int).length := of_decide_eq_true e
          rw [List.length_map] at q
          omega
        have hlen : ((ns.map V.int).length : Int) = ns.length := by rw [List.length_map]
        obtain ⟨z, hz⟩ := cells (j := (u + 1) * 7 % ((ns.map V.int).length : Int)) (Int.emod_nonneg _ (by omega)) (by rw [hlen]; exact Int.emod_lt_of_pos _ (by omega))
        refine ⟨_, rfl, _, rfl, _, rfl, ixL hD2 rfl ⟨_, _, rfl, rfl, .inr ⟨by decide, by decide⟩, _, rfl, lenL hc2 ⟨_, _, rfl, rfl, (by show (0 : Int) < ((ns.map V.int).length : Int); omega), ixL hc2 hz ⟨_, _, rfl, rfl, (by show (0 : Int) < 2147483629; decide), _, _, rfl, rfl, ?_⟩⟩⟩⟩
        exact last _
      · exact last _
  have mid : ∀ (H1 : Hp) (z3 z4 : Option V), H1 D = some (.lst [.ref c, .int i, .int n, .int (u + 1)]) → H1 c = some (.lst (ns.map V.int)) → (∀ b, b ≠ D → H1 b = H b) →
      t_l_draw_mid K { nx := fun _ H' => Q .non H', rt := Q } [some (.ref D), some (.int m), some (.ref c), z3, z4] H1 := by
    intro H1 z3 z4 hD1 hc1 fr1
    refine ⟨_, rfl, ixL hD1 rfl ⟨rfl, _, rfl, ?_⟩⟩
    refine ite2 (fun e => ?_) (fun e => iteF (rest i n H1 _ _ i0 i1 n0 hD1 hc1 fr1))
    refine ⟨_, rfl, ixL hD1 rfl ⟨_, rfl, lenL hc1 ⟨_, _, rfl, rfl, _, rfl, ite2 (fun e2 => ?_) (fun e2 => rest i n H1 _ _ i0 i1 n0 hD1 hc1 fr1)⟩⟩⟩
    have hi : i < ns.length := by
      have q : i < ((ns.map V.int).length : Int) := of_decide_eq_true e2
      rw [List.length_map] at q
      exact q
    obtain ⟨z, hz⟩ := cells i0 hi
    have ei : i + 1 - 1 = i := by omega
    have inn : ∀ (H2 : Hp), H2 D = some (.lst [.ref c, .int (i + 1), .int n, .int (u + 1)]) → H2 c = some (.lst (ns.map V.int)) → (∀ b, b ≠ D → H2 b = H b) →
        t_l_draw_in K { nx := t_l_draw_rest K { nx := fun _ H' => Q .non H', rt := Q }, rt := Q } [some (.ref D), some (.int m), some (.ref c), z3, z4] H2 := by
      intro H2 hD2 hc2 fr2
      refine ⟨_, rfl, _, rfl, ixL hD2 rfl ⟨_, _, rfl, rfl, ixL hc2 (by rw [ei]; exact hz) ⟨_, _, rfl, rfl, ⟨by decide, by decide, by decide⟩, _, _, rfl, rfl, _, rfl, ite2 (fun e3 => ?_) (fun e3 => ?_)⟩⟩⟩
      · refine ⟨_, rfl, _, rfl, ixL hD2 rfl ⟨_, _, rfl, rfl, ixL hc2 (by rw [ei]; exact hz) ⟨_, rfl, ixL hD2 rfl ⟨z, u + 1, rfl, by omega, by omega, fun v => ?_⟩⟩⟩⟩
        refine ⟨_, rfl, _, _, rfl, rfl, m0, k _ _ (Int.emod_nonneg v (by omega)) (Int.emod_lt_of_pos v m0) ⟨ncD, hc2, hl, i + 1, n, u + 1, hD2, by omega, by omega, n0, by omega, by omega⟩ fr2⟩
      · have hz0 : ¬ z < 1000000000000000000 := fun q => e3 (decide_eq_true (by rw [pow18]; exact q))
        refine ⟨_, rfl, _, rfl, ixL hD2 rfl ⟨_, _, rfl, rfl, ixL hc2 (by rw [ei]; exact hz) ⟨_, rfl, D, _, _, 2, rfl, rfl, hD2, rfl, ?_⟩⟩⟩
        exact rest (i + 1) z _ _ _ (by omega) (by omega) (by omega) updS (updN ncD hc2) fun b nb => updN nb (fr2 b nb)
    refine ⟨_, rfl, ixL hD1 rfl ⟨_, _, rfl, rfl, _, rfl, D, _, _, 1, rfl, rfl, hD1, rfl, ?_⟩⟩
    exact inn _ updS (updN ncD hc1) fun b nb => updN nb (fr1 b nb)
  -- cells = deck[0]; deck[3] = deck[3] + 1
  refine ⟨_, rfl, ixL hD rfl ?_⟩
  refine ⟨_, rfl, ixL hD rfl ⟨_, _, rfl, rfl, _, rfl, D, _, _, 3, rfl, rfl, hD, rfl, ?_⟩⟩
  exact mid _ _ _ updS (updN ncD hc) fun b nb => upd_ne nb
/-! ### the same data, kind for kind -/
/-- two values of the same data, at most n deep -/
def SameV (H : Hp) : Nat → V → V → Prop
  | 0, _, _ => False
  | n + 1, x, y => (x = y ∧ (x = .non ∨ (∃ i, x = .int i) ∨ (∃ b, x = .bl b) ∨ ∃ z, x = .str z)) ∨
    ∃ p q xs ys, x = .ref p ∧ y = .ref q ∧ ((H p = some (.lst xs) ∧ H q = some (.lst ys)) ∨ (H p = some (.tup xs) ∧ H q = some (.tup ys))) ∧ xs.length = ys.length ∧ xs.length ≤ 100000 ∧
      ∀ (i : Nat) (a b : V), xs[i]? = some a → ys[i]? = some b → SameV H n a b
theorem SameV.int {H : Hp} {n : Nat} {i j : Int} (e : i = j) : SameV H (n + 1) (.int i) (.int j) := Or.inl ⟨by rw [e], .inr (.inl ⟨i, rfl⟩)⟩
theorem SameV.bl {H : Hp} {n : Nat} {i j : Bool} (e : i = j) : SameV H (n + 1) (.bl i) (.bl j) := Or.inl ⟨by rw [e], .inr (.inr (.inl ⟨i, rfl⟩))⟩
theorem SameV.tup {H : Hp} {n : Nat} {p q : Addr} {xs ys : List V} (h1 : H p = some (.tup xs)) (h2 : H q = some (.tup ys)) (hl : xs.length = ys.length) (hz : xs.length ≤ 100000) (h : ∀ (i : Nat) (a b : V), xs[i]? = some a → ys[i]? = some b → SameV H n a b) : SameV H (n + 1) (.ref p) (.ref q) :=
  Or.inr ⟨p, q, xs, ys, rfl, rfl, .inr ⟨h1, h2⟩, hl, hz, h⟩
theorem SameV.lst {H : Hp} {n : Nat} {p q : Addr} {xs ys : List V} (h1 : H p = some (.lst xs)) (h2 : H q = some (.lst ys)) (hl : xs.length = ys.length) (hz : xs.length ≤ 100000) (h : ∀ (i : Nat) (a b : V), xs[i]? = some a → ys[i]? = some b → SameV H n a b) : SameV H (n + 1) (.ref p) (.ref q) :=
  Or.inr ⟨p, q, xs, ys, rfl, rfl, .inl ⟨h1, h2⟩, hl, hz, h⟩
theorem SameV.ints {H : Hp} {n : Nat} {ns : List Int} : ∀ (i : Nat) (a b : V), (ns.map V.int)[i]? = some a → (ns.map V.int)[i]? = some b → SameV H (n + 1) a b := fun i a b h1 h2 => by
  have e : a = b := Option.some.inj (h1.symm.trans h2)
  rw [List.getElem?_map] at h1
  cases q : ns[i]? with
  | none => rw [q] at h1; cases h1
  | some z => rw [q] at h1; exact Or.inl ⟨e, .inr (.inl ⟨z, (Option.some.inj h1).symm⟩)⟩
def sp_sameN (_ : PySem.W.Frag) (n : Nat) : Sp := fun vs H Q _ => ∃ x y, vs = [x, y] ∧ SameV H n x y ∧ Q (.bl true) H
abbrev sp_l_same (K : PySem.W.Frag) : Sp := sp_sameN K 6
abbrev N_l_same : List Str := ["_law_found", "_law_due", "_law_k"]
def t_l_same_loop (K : PySem.W.Frag) (n : Nat) : TS := (tSeq (tIfS (tTest (tOp rNe (tCB (fLen K) (tCons (tVar 0) tNil)) (tCB (fLen K) (tCons (tVar 1) tNil)))) (tRet (tC (.bl false))) tNext)
    (tSeq (tFor (iRng1 (tCons (tCB (fLen K) (tCons (tVar 1) tNil)) tNil)) (gName 2) (tIfS (tNot (tB (tCall (sp_sameN K n) [] E0 (tCons (tOp (rIx K) (tVar 0) (tVar 2)) (tCons (tOp (rIx K) (tVar 1) (tVar 2)) tNil))))) (tRet (tC (.bl false))) tNext))
    (tRet (tC (.bl true)))))
def t_l_same_tail (K : PySem.W.Frag) (n : Nat) : TS := (tSeq (tIfS (tB (tCB (rIsi K) (tCons (tVar 1) (tCons (tC (.ty "bool")) tNil)))) (tRet (tAndV (tCB (rIsi K) (tCons (tVar 0) (tCons (tC (.ty "bool")) tNil))) (tOp rEq (tVar 0) (tVar 1)))) tNext)
    (tSeq (tIfS (tB (tCB (rIsi K) (tCons (tVar 1) (tCons (tC (.ty "int")) tNil)))) (tRet (tAndV (tCall (sp_l_int K) [] E0 (tCons (tVar 0) tNil)) (tOp rEq (tVar 0) (tVar 1)))) tNext)
    (tSeq (tIfS (tB (tCB (rIsi K) (tCons (tVar 1) (tCons (tC (.ty "str")) tNil)))) (tRet (tAndV (tCB (rIsi K) (tCons (tVar 0) (tCons (tC (.ty "str")) tNil))) (tOp rEq (tVar 0) (tVar 1)))) tNext)
    (tRet (tAndV (tOp fIsN (tVar 1) (tC .non)) (tOp fIsN (tVar 0) (tC .non)))))))
def t_l_same (K : PySem.W.Frag) (n : Nat) : TS := (tSeq (tIfS (tOr (tB (tCB (rIsi K) (tCons (tVar 1) (tCons (tC (.ty "tuple")) tNil)))) (tB (tCB (rIsi K) (tCons (tVar 1) (tCons (tC (.ty "list")) tNil))))) (tSeq (tIfS (tOr (tTest (tOp rNe (tCB (rIsi K) (tCons (tVar 1) (tCons (tC (.ty "tuple")) tNil))) (tCB (rIsi K) (tCons (tVar 0) (tCons (tC (.ty "tuple")) tNil))))) (tTest (tOp rNe (tCB (rIsi K) (tCons (tVar 1) (tCons (tC (.ty "list")) tNil))) (tCB (rIsi K) (tCons (tVar 0) (tCons (tC (.ty "list")) tNil)))))) (tRet (tC (.bl false))) tNext)
    (t_l_same_loop K n)) tNext)
    (t_l_same_tail K n))
section
variable {K : PySem.W.Frag} {H : Hp} {x : V} {Q : VK} {σ : L2.St} {c t : String} {b : Bool}
theorem isi (ty : TyX K H x (.type t)) (k : kitB t c = some b) (q : Q (.bl b) H) : tCons (tC (.ty c)) tNil σ H fun ys H2 => rIsi K (x :: ys) H2 Q := ⟨_, _, _, _, b, rfl, .ty _, ty, kit_ty k, q⟩
end
theorem k_it : kitB "int" "tuple" = some false := by decide +kernel
theorem k_il : kitB "int" "list" = some false := by decide +kernel
theorem k_ib : kitB "int" "bool" = some false := by decide +kernel
theorem k_ii : kitB "int" "int" = some true := by decide +kernel
theorem k_bt : kitB "bool" "tuple" = some false := by decide +kernel
theorem k_bl : kitB "bool" "list" = some false := by decide +kernel
theorem k_bb : kitB "bool" "bool" = some true := by decide +kernel
theorem k_bi : kitB "bool" "int" = some true := by decide +kernel
theorem k_st : kitB "str" "tuple" = some false := by decide +kernel
theorem k_sl : kitB "str" "list" = some false := by decide +kernel
theorem k_sb : kitB "str" "bool" = some false := by decide +kernel
theorem k_si : kitB "str" "int" = some false := by decide +kernel
theorem k_ss : kitB "str" "str" = some true := by decide +kernel
theorem k_nt : kitB "NoneType" "tuple" = some false := by decide +kernel
theorem k_nl : kitB "NoneType" "list" = some false := by decide +kernel
theorem k_nb : kitB "NoneType" "bool" = some false := by decide +kernel
theorem k_ni : kitB "NoneType" "int" = some false := by decide +kernel
theorem k_ns : kitB "NoneType" "str" = some false := by decide +kernel
theorem k_tt : kitB "tuple" "tuple" = some true := by decide +kernel
theorem k_tl : kitB "tuple" "list" = some false := by decide +kernel
theorem k_ti : kitB "tuple" "int" = some false := by decide +kernel
theorem k_tb : kitB "tuple" "bool" = some false := by decide +kernel
theorem k_lt : kitB "list" "tuple" = some false := by decide +kernel
theorem k_ll : kitB "list" "list" = some true := by decide +kernel
theorem k_li : kitB "list" "int" = some false := by decide +kernel
theorem k_lb : kitB "list" "bool" = some false := by decide +kernel
theorem len_le {n : Nat} (h : n ≤ 100000) : -(2 ^ 62 : Int) ≤ (n : Int) ∧ (n : Int) < 2 ^ 62 := by
  have e : (2 : Int) ^ 62 = 4611686018427387904 := by decide
  rw [e]
  omega
theorem pure_l_same {K : PySem.W.Frag} {n : Nat} {vs : List V} {H : Hp} {Q : VK} {E : XK} (h : sp_sameN K (n + 1) vs H Q E) : t_l_same K n { nx := fun _ H' => Q .non H', rt := Q } (start N_l_same vs) H := by
  obtain ⟨x, y, rfl, h, k⟩ := h
  rcases h with ⟨rfl, h⟩ | ⟨p, q, xs, ys, rfl, rfl, h, hl, hz, hs⟩
  · rcases h with rfl | ⟨i, rfl⟩ | ⟨b, rfl⟩ | ⟨z, rfl⟩
    · refine ⟨_, rfl, isi (.base .non) k_nt ⟨_, rfl, iteF ⟨_, rfl, isi (.base .non) k_nl ⟨_, rfl, iteF ?_⟩⟩⟩⟩
      refine ⟨_, rfl, isi (.base .non) k_nb ⟨_, rfl, iteF ?_⟩⟩
      refine ⟨_, rfl, isi (.base .non) k_ni ⟨_, rfl, iteF ?_⟩⟩
      refine ⟨_, rfl, isi (.base .non) k_ns ⟨_, rfl, iteF ?_⟩⟩
      exact ⟨_, rfl, rfl, _, rfl, iteT ⟨_, rfl, rfl, k⟩⟩
    · refine ⟨_, rfl, isi (.base (.int i)) k_it ⟨_, rfl, iteF ⟨_, rfl, isi (.base (.int i)) k_il ⟨_, rfl, iteF ?_⟩⟩⟩⟩
      refine ⟨_, rfl, isi (.base (.int i)) k_ib ⟨_, rfl, iteF ?_⟩⟩
      refine ⟨_, rfl, isi (.base (.int i)) k_ii ⟨_, rfl, iteT ?_⟩⟩
      refine ⟨_, rfl, i, rfl, _, rfl, iteT ⟨_, rfl, _, rfl, rfl, ?_⟩⟩
      rw [decide_eq_true rfl]
      exact k
    · refine ⟨_, rfl, isi (.base (.bl b)) k_bt ⟨_, rfl, iteF ⟨_, rfl, isi (.base (.bl b)) k_bl ⟨_, rfl, iteF ?_⟩⟩⟩⟩
      refine ⟨_, rfl, isi (.base (.bl b)) k_bb ⟨_, rfl, iteT ?_⟩⟩
      refine ⟨_, rfl, isi (.base (.bl b)) k_bb ⟨_, rfl, iteT ⟨_, rfl, _, rfl, rfl, ?_⟩⟩⟩
      rw [decide_eq_true rfl]
      exact k
    · refine ⟨_, rfl, isi (.base (.str z)) k_st ⟨_, rfl, iteF ⟨_, rfl, isi (.base (.str z)) k_sl ⟨_, rfl, iteF ?_⟩⟩⟩⟩
      refine ⟨_, rfl, isi (.base (.str z)) k_sb ⟨_, rfl, iteF ?_⟩⟩
      refine ⟨_, rfl, isi (.base (.str z)) k_si ⟨_, rfl, iteF ?_⟩⟩
      refine ⟨_, rfl, isi (.base (.str z)) k_ss ⟨_, rfl, iteT ?_⟩⟩
      refine ⟨_, rfl, isi (.base (.str z)) k_ss ⟨_, rfl, iteT ⟨_, rfl, _, rfl, rfl, ?_⟩⟩⟩
      rw [decide_eq_true rfl]
      exact k
  · -- the loop over both
    have loop : (∃ o, (H p = some o ∧ (o = .lst xs ∨ o = .tup xs))) → (∃ o, (H q = some o ∧ (o = .lst ys ∨ o = .tup ys))) → ∀ z2 : Option V,
        t_l_same_loop K n { nx := t_l_same_tail K n { nx := fun _ H' => Q .non H', rt := Q }, rt := Q } [some (.ref p), some (.ref q), z2] H := by
      intro hp hq z2
      have hlen : ∀ {r : Addr} {zs : List V} {R : VK} {σ : L2.St}, (∃ o, (H r = some o ∧ (o = .lst zs ∨ o = .tup zs))) → R (.int zs.length) H → tNil σ H fun ws H2 => fLen K (.ref r :: ws) H2 R := by
        rintro r zs R σ ⟨o, h1, rfl | rfl⟩ h2
        · exact lenL h1 h2
        · exact lenT h1 h2
      have hix : ∀ {r : Addr} {zs : List V} {R : VK} {i : Int} {v : V}, (∃ o, (H r = some o ∧ (o = .lst zs ∨ o = .tup zs))) → atI zs i = some v → R v H → rIx K (.ref r) (.int i) H R := by
        rintro r zs R i v ⟨o, h1, rfl | rfl⟩ h2 h3
        · exact ixL h1 h2 h3
        · exact ixT h1 h2 h3
      refine ⟨_, rfl, hlen hp ⟨_, rfl, hlen hq ⟨rfl, _, rfl, ?_⟩⟩⟩
      rw [decide_eq_true (show V.int (xs.length : Int) = V.int (ys.length : Int) by rw [hl])]
      refine iteF ?_
      refine ⟨_, rfl, hlen hq ⟨_, rfl, (len_le (by omega)).1, (len_le (by omega)).2, for_range (lo := 0) (n := ((ys.length : Int)).toNat) (fun i σ H' => H' = H ∧ ∃ z, σ = [some (.ref p), some (.ref q), z]) ⟨rfl, _, rfl⟩ ?_ ?_⟩⟩
      · rintro i σ H' hi ⟨rfl, z, rfl⟩
        have hi1 : i < ys.length := by omega
        have hi2 : i < xs.length := by omega
        have e1 : atI xs (0 + (i : Int)) = some xs[i] := by rw [Int.zero_add]; exact atI_nat (List.getElem?_eq_getElem hi2)
        have e2 : atI ys (0 + (i : Int)) = some ys[i] := by rw [Int.zero_add]; exact atI_nat (List.getElem?_eq_getElem hi1)
        refine ⟨_, rfl, _, rfl, hix hp e1 ⟨_, rfl, _, rfl, hix hq e2 ⟨_, _, rfl, hs i _ _ (List.getElem?_eq_getElem hi2) (List.getElem?_eq_getElem hi1), _, rfl, iteF ?_⟩⟩⟩
        exact ⟨rfl, _, rfl⟩
      · rintro σ H' ⟨rfl, z, rfl⟩
        exact k
    rcases h with ⟨h1, h2⟩ | ⟨h1, h2⟩
    · have t1 : TyX K H (.ref p) (.type "list") := .base (.lst h1)
      have t2 : TyX K H (.ref q) (.type "list") := .base (.lst h2)
      refine ⟨_, rfl, isi t2 k_lt ⟨_, rfl, iteF ⟨_, rfl, isi t2 k_ll ⟨_, rfl, iteT ?_⟩⟩⟩⟩
      refine ⟨_, rfl, isi t2 k_lt ⟨_, rfl, isi t1 k_lt ⟨rfl, _, rfl, iteF ⟨_, rfl, isi t2 k_ll ⟨_, rfl, isi t1 k_ll ⟨rfl, _, rfl, iteF ?_⟩⟩⟩⟩⟩⟩
      exact loop ⟨_, h1, .inl rfl⟩ ⟨_, h2, .inl rfl⟩ _
    · have t1 : TyX K H (.ref p) (.type "tuple") := .base (.tup h1)
      have t2 : TyX K H (.ref q) (.type "tuple") := .base (.tup h2)
      refine ⟨_, rfl, isi t2 k_tt ⟨_, rfl, iteT ?_⟩⟩
      refine ⟨_, rfl, isi t2 k_tt ⟨_, rfl, isi t1 k_tt ⟨rfl, _, rfl, iteF ⟨_, rfl, isi t2 k_tl ⟨_, rfl, isi t1 k_tl ⟨rfl, _, rfl, iteF ?_⟩⟩⟩⟩⟩⟩
      exact loop ⟨_, h1, .inr rfl⟩ ⟨_, h2, .inr rfl⟩ _
def sp_law (K : PySem.W.Frag) : Sp := fun vs H Q _ => ∃ (a : Addr) (ns : List Int), vs = [.ref a] ∧ SqL K H a (ns.map V.int) ∧ ns.length ≤ 63 ∧ ∀ H', Q (.bl true) H'
section
variable {K : PySem.W.Frag} {vs : List V} {H : Hp} {Q : VK} {E : XK}
theorem len_law (h : sp_law K vs H Q E) : vs.length = 1 := by
  obtain ⟨_, _, rfl, _⟩ := h
  rfl
theorem len_l_deck (h : sp_l_deck K vs H Q E) : vs.length = 1 := by
  obtain ⟨_, _, rfl, _⟩ := h
  rfl
theorem len_l_mixed (h : sp_l_mixed K vs H Q E) : vs.length = 2 := by
  obtain ⟨_, _, rfl, _⟩ := h
  rfl
theorem len_l_draw (h : sp_l_draw K vs H Q E) : vs.length = 2 := by
  obtain ⟨_, _, _, _, _, rfl, _⟩ := h
  rfl
theorem len_l_int (h : sp_l_int K vs H Q E) : vs.length = 1 := by
  obtain ⟨_, rfl, _⟩ := h
  rfl
theorem len_sameN {n : Nat} (h : sp_sameN K n vs H Q E) : vs.length = 2 := by
  obtain ⟨_, _, rfl, _⟩ := h
  rfl
end
/-! ### comprehensions whose elements change nothing -/
section
variable {K : PySem.W.Frag} {a : Addr} {xs ys : List V} {g : TG} {tt : TT} {te : TE} {vs : List Nat} {σ : L2.St} {H1 : Hp} {D : Addr} {Qd : Hp → Prop}
/-- [e for x in xs], xs a tuple, ys the values in order -/
theorem lc_mapT (hq : ∀ acc, SqT K (upd H1 D (.lst acc)) a xs) (hl : ys.length = xs.length) (hz : xs.length ≤ 100000)
    (hs : ∀ (i : Nat) (x y : V) (acc : List V) (R : VK), xs[i]? = some x → ys[i]? = some y → R y (upd H1 D (.lst acc)) → g x (wipe σ vs) (upd H1 D (.lst acc)) fun σ2 H2 => wipe σ2 vs = wipe σ vs ∧ tt σ2 H2 fun b H3 => if b = true then te σ2 H3 R else False)
    (hd : Qd (upd H1 D (.lst ys))) (mt : ∀ σ H P P', (∀ b H1, P b H1 → P' b H1) → tt σ H P → tt σ H P') (mg : ∀ v σ H P P', (∀ σ1 H1, P σ1 H1 → P' σ1 H1) → g v σ H P → g v σ H P') :
    ∃ W : Nat → Nat → Hp → Prop, (∃ m, W 0 m (upd H1 D (.lst []))) ∧ ∀ i m H, W i m H →
      ((Itt K a).stop i H ∧ Qd H) ∨ ((Itt K a).go i H ∧ ∃ Nx : Hp → Prop, (∀ H', Nx H' → ∃ m', m' < m ∧ W (i + 1) m' H') ∧ ∀ x H', (Itt K a).yld i H x H' → g x (wipe σ vs) H' fun σ2 H2 => wipe σ2 vs = wipe σ vs ∧ tt σ2 H2 fun b H3 =>
        if b = true then te σ2 H3 fun y H4 => ∃ acc, H4 D = some (.lst acc) ∧ acc.length < sizeLine ∧ Nx (upd H4 D (.lst (acc ++ [y]))) else Nx H3) := by
  refine lc_tup (K := K) (a := a) (xs := xs) (fun i H => H = upd H1 D (.lst (ys.take i))) (by rw [List.take_zero]) (fun i H _ e => by rw [e]; exact hq _) (fun i x H hx e => ?_) (fun H e => by
    rw [e, List.take_of_length_le (by omega)]
    exact hd)
  subst e
  have hi : i < ys.length := by
    have := (List.getElem?_eq_some_iff.mp hx).1
    omega
  refine mg _ _ _ _ _ (fun σ1 H2 q => ⟨q.1, mt _ _ _ _ (fun b H3 q2 => ?_) q.2⟩) (hs i x ys[i] (ys.take i) (fun y H4 => ∃ acc, H4 D = some (.lst acc) ∧ acc.length < sizeLine ∧ upd H4 D (.lst (acc ++ [y])) = upd H1 D (.lst (ys.take (i + 1)))) hx (List.getElem?_eq_getElem hi) ⟨ys.take i, upd_same, Nat.lt_of_le_of_lt (by rw [List.length_take]; omega : (ys.take i).length ≤ 100000) (by decide), by rw [upd_upd, List.take_add_one, List.getElem?_eq_getElem hi]; rfl⟩)
  cases b with
  | true => exact q2
  | false => exact q2.elim
theorem lc_mapL (hq : ∀ acc, SqL K (upd H1 D (.lst acc)) a xs) (hl : ys.length = xs.length) (hz : xs.length ≤ 100000)
    (hs : ∀ (i : Nat) (x y : V) (acc : List V) (R : VK), xs[i]? = some x → ys[i]? = some y → R y (upd H1 D (.lst acc)) → g x (wipe σ vs) (upd H1 D (.lst acc)) fun σ2 H2 => wipe σ2 vs = wipe σ vs ∧ tt σ2 H2 fun b H3 => if b = true then te σ2 H3 R else False)
    (hd : Qd (upd H1 D (.lst ys))) (mt : ∀ σ H P P', (∀ b H1, P b H1 → P' b H1) → tt σ H P → tt σ H P') (mg : ∀ v σ H P P', (∀ σ1 H1, P σ1 H1 → P' σ1 H1) → g v σ H P → g v σ H P') :
    ∃ W : Nat → Nat → Hp → Prop, (∃ m, W 0 m (upd H1 D (.lst []))) ∧ ∀ i m H, W i m H →
      ((Itl K a).stop i H ∧ Qd H) ∨ ((Itl K a).go i H ∧ ∃ Nx : Hp → Prop, (∀ H', Nx H' → ∃ m', m' < m ∧ W (i + 1) m' H') ∧ ∀ x H', (Itl K a).yld i H x H' → g x (wipe σ vs) H' fun σ2 H2 => wipe σ2 vs = wipe σ vs ∧ tt σ2 H2 fun b H3 =>
        if b = true then te σ2 H3 fun y H4 => ∃ acc, H4 D = some (.lst acc) ∧ acc.length < sizeLine ∧ Nx (upd H4 D (.lst (acc ++ [y]))) else Nx H3) := by
  refine lc_list (K := K) (a := a) (xs := xs) (fun i H => H = upd H1 D (.lst (ys.take i))) (by rw [List.take_zero]) (fun i H _ e => by rw [e]; exact hq _) (fun i x H hx e => ?_) (fun H e => by
    rw [e, List.take_of_length_le (by omega)]
    exact hd)
  subst e
  have hi : i < ys.length := by
    have := (List.getElem?_eq_some_iff.mp hx).1
    omega
  refine mg _ _ _ _ _ (fun σ1 H2 q => ⟨q.1, mt _ _ _ _ (fun b H3 q2 => ?_) q.2⟩) (hs i x ys[i] (ys.take i) (fun y H4 => ∃ acc, H4 D = some (.lst acc) ∧ acc.length < sizeLine ∧ upd H4 D (.lst (acc ++ [y])) = upd H1 D (.lst (ys.take (i + 1)))) hx (List.getElem?_eq_getElem hi) ⟨ys.take i, upd_same, Nat.lt_of_le_of_lt (by rw [List.length_take]; omega : (ys.take i).length ≤ 100000) (by decide), by rw [upd_upd, List.take_add_one, List.getElem?_eq_getElem hi]; rfl⟩)
  cases b with
  | true => exact q2
  | false => exact q2.elim
theorem mono_yes : ∀ (σ : L2.St) (H : Hp) (P P' : Bool → Hp → Prop), (∀ b H1, P b H1 → P' b H1) → tYes σ H P → tYes σ H P' := fun _ _ _ _ f h => f _ _ h
theorem mono_gName {k : Nat} : ∀ (v : V) (σ : L2.St) (H : Hp) (P P' : L2.St → Hp → Prop), (∀ σ1 H1, P σ1 H1 → P' σ1 H1) → gName k v σ H P → gName k v σ H P' := fun _ _ _ _ _ f h => f _ _ h
end
end Fw

set_option Elab.async false
set_option linter.all false
set_option maxRecDepth 100000
set_option maxHeartbeats 4000000
namespace Fw
open PySem PySem.Spec PyProof.Rows L2
section
variable {X : Cx}
/-- a dict comprehension that is given to a name of its own, on one row -/
theorem sw_dict {kx vx : Expr} {gens : List Comprehension} {sc : Scope} {dpos npos : Pos} {nm : Str} {ln : Nat} {en : Env} (h1 : en.scope.kind = .function) (h2 : en.scope.names.lookup nm = some .local) (h3 : (npos.line == dpos.line) = true)
    (h4 : (sc.names.any fun (z, k) => z == nm && (k == .local || k == .cell)) = false) : swapsWith (.DictComp kx vx gens sc dpos) (some (.Name nm npos)) ln en = pure true := by
  have e1 : en.kindOf nm = some .local := h2
  have e2 : en.blockKind = .function := by
    unfold Env.blockKind
    rw [h1]
    rfl
  unfold swapsWith
  simp only [e2, e1, h4, Expr.pos, h3]
  rfl
theorem ps_setDc {i : Nat} {nm : Str} {npos : Pos} {kx vx tgt it : Expr} {tests : List Expr} {sc : Scope} {own : List (Str × Nat)} {dpos apos : Pos} {wi : TI} {g : TG} {tt : TT} {tk tv : TE} (calm : X.calm = true) (nd : X.N.Nodup) (at_ : X.N[i]? = some nm) (loc : X.env.scope.names.lookup nm = some .local)
    (sw : swapsWith (.DictComp kx vx [⟨tgt, it, tests, 0⟩] sc dpos) (some (.Name nm npos)) apos.line X.env = pure true) (walk : PI X tgt it wi) (blk : BlkOk X.N X.env.scope sc own)
    (pg : ∀ (z : Shared) (Hz : Hp) (cz : Addr) (clz : List (Str × Addr)) (fz : List Addr), PG (X.blk z Hz sc (compEnvC sc clz cz X.env) fz) tgt g)
    (pt : ∀ (z : Shared) (Hz : Hp) (cz : Addr) (clz : List (Str × Addr)) (fz : List Addr), PTs (X.blk z Hz sc (compEnvC sc clz cz X.env) fz) tests tt)
    (pk : ∀ (z : Shared) (Hz : Hp) (cz : Addr) (clz : List (Str × Addr)) (fz : List Addr), PE (X.blk z Hz sc (compEnvC sc clz cz X.env) fz) kx tk)
    (pv : ∀ (z : Shared) (Hz : Hp) (cz : Addr) (clz : List (Str × Addr)) (fz : List Addr), PE (X.blk z Hz sc (compEnvC sc clz cz X.env) fz) vx tv)
    (fold : ∀ z, foldedSetIterable it X.env z = pure z := by intro _; rfl) :
    PS X (.Assign [.Name nm npos] (.DictComp kx vx [⟨tgt, it, tests, 0⟩] sc dpos) apos) (tAsg (tDc wi g tt tk tv (own.map (·.2))) (gName i)) := by
  refine ⟨fun pins s σ H D inv rd => ?_⟩
  rw [exec_Assign_Name_used _ _ _ _ sw]
  refine wpAny_bind (wpAny_standAt ?_)
  refine wpAny_bind ?_
  show wpAny _ X.A (do let _ ← comprehension (.DictComp kx vx [⟨tgt, it, tests, 0⟩] sc dpos) sc X.env (firstIterPos [⟨tgt, it, tests, 0⟩] dpos) newDict false (eval it X.env) (some (assign (.Name nm npos) X.env))) _ _ s
  have rd2 : tDc wi g tt tk tv (own.map (·.2)) σ H (fun x Hx => gName i x σ Hx D.nx) := rd
  refine wpAny_bind (thn (dc_core (Qf := fun _ s1 => SP X pins D .next s1) calm nd inv walk blk pg pt pk pv fold rd2 fun F C s1 m H1 inv1 q ns fp => ?_) fun _ s1 z => wpAny_pure (wpAny_pure z))
  show wpAny _ _ (assign (.Name nm npos) X.env (.ref F)) _ _ _
  obtain ⟨p0, p1, _, p3, p4, p5⟩ := fp
  refine wpAny_assign_Name (store_ok2 (v := V.ref F) inv1 nd at_ (.inl loc) rfl (fun s2 inv2 ⟨b, same, hb⟩ => ?_) (.inr loc))
  have ne : C ≠ b := hb.elim (fun z => by rw [z]; exact p1) fun z e => p4 nm b z e.symm
  refine ⟨m, ns.sameBut same ne, fun h3 same3 => ⟨_, H1, ?_, q⟩⟩
  exact inv2.turned (t' := s2.toks) (fun x o nx e => (same3.2 x nx).trans e) p0 p1 p3 p4 p5
end
end Fw

set_option Elab.async false
set_option linter.all false
set_option maxRecDepth 100000
set_option maxHeartbeats 4000000
namespace Fw
open PySem L2 RZ RT
/-! ### data -/
inductive Dt where
  | non | bl (b : Bool) | int (i : Int) | str (z : Str) | tup (xs : List Dt) | lst (xs : List Dt) | dct
/-- the value x is the data d, as H stands -/
inductive At (H : Hp) : V → Dt → Prop where
  | non : At H .non .non
  | bl (b : Bool) : At H (.bl b) (.bl b)
  | int (i : Int) : At H (.int i) (.int i)
  | str (z : Str) : At H (.str z) (.str z)
  | tup {p : Addr} {xs : List V} {ds : List Dt} (h : H p = some (.tup xs)) (hz : xs.length ≤ 100000) (hl : xs.length = ds.length) (ha : ∀ (i : Nat) (x : V) (d : Dt), xs[i]? = some x → ds[i]? = some d → At H x d) : At H (.ref p) (.tup ds)
  | lst {p : Addr} {xs : List V} {ds : List Dt} (h : H p = some (.lst xs)) (hz : xs.length ≤ 100000) (hl : xs.length = ds.length) (ha : ∀ (i : Nat) (x : V) (d : Dt), xs[i]? = some x → ds[i]? = some d → At H x d) : At H (.ref p) (.lst ds)
  | dct {p : Addr} {kvs : List (Key × V)} (h : H p = some (.dK kvs)) : At H (.ref p) .dct
theorem At.mono {H H' : Hp} (s : Same H H') {x : V} {d : Dt} (a : At H x d) : At H' x d := by
  induction a with
  | non => exact .non
  | bl b => exact .bl b
  | int i => exact .int i
  | str z => exact .str z
  | tup h hz hl _ ih => exact .tup (s _ _ h) hz hl ih
  | lst h hz hl _ ih => exact .lst (s _ _ h) hz hl ih
  | dct h => exact .dct (s _ _ h)
def Dt.ty : Dt → String
  | .non => "NoneType"
  | .bl _ => "bool"
  | .int _ => "int"
  | .str _ => "str"
  | .tup _ => "tuple"
  | .lst _ => "list"
  | .dct => "dict"
theorem At.tyX {K : PySem.W.Frag} {H : Hp} {x : V} {d : Dt} (a : At H x d) : TyX K H x (.type d.ty) := by
  cases a with
  | non => exact .base .non
  | bl b => exact .base (.bl b)
  | int i => exact .base (.int i)
  | str z => exact .base (.str z)
  | tup h => exact .base (.tup h)
  | lst h => exact .base (.lst h)
  | dct h => exact .base (.dK h)
def isIntD : Dt → Bool
  | .int _ => true
  | _ => false
def isTupD : Dt → Bool
  | .tup _ => true
  | _ => false
def isPairD : Dt → Bool
  | .tup ds => decide (ds.length = 2)
  | _ => false
theorem k_dt : kitB "dict" "tuple" = some false := by decide +kernel
theorem k_di : kitB "dict" "int" = some false := by decide +kernel
theorem k_db : kitB "dict" "bool" = some false := by decide +kernel
theorem kit_tup (d : Dt) : kitB d.ty "tuple" = some (isTupD d) := by
  cases d with
  | non => exact k_nt
  | bl b => exact k_bt
  | int i => exact k_it
  | str z => exact k_st
  | tup xs => exact k_tt
  | lst xs => exact k_lt
  | dct => exact k_dt
/-- isinstance(x, tuple) of data -/
theorem isiTup {K : PySem.W.Frag} {H : Hp} {x : V} {d : Dt} {Q : VK} {σ : L2.St} (a : At H x d) (q : Q (.bl (isTupD d)) H) : tCons (tC (.ty "tuple")) tNil σ H fun ys H2 => rIsi K (x :: ys) H2 Q := isi a.tyX (kit_tup d) q
/-! ### inversions -/
theorem At.int_inv {H : Hp} {x : V} {i : Int} (a : At H x (.int i)) : x = .int i := by
  cases a
  rfl
theorem At.tup_inv {H : Hp} {x : V} {ds : List Dt} (a : At H x (.tup ds)) : ∃ (p : Addr) (xs : List V), x = .ref p ∧ H p = some (.tup xs) ∧ xs.length = ds.length ∧ xs.length ≤ 100000 ∧ ∀ (i : Nat) (x : V) (d : Dt), xs[i]? = some x → ds[i]? = some d → At H x d := by
  cases a with
  | tup h hz hl ha => exact ⟨_, _, rfl, h, hl, hz, ha⟩
theorem At.pair_inv {H : Hp} {x : V} {d e : Dt} (a : At H x (.tup [d, e])) : ∃ (p : Addr) (y z : V), x = .ref p ∧ H p = some (.tup [y, z]) ∧ At H y d ∧ At H z e := by
  obtain ⟨p, xs, rfl, h, hl, _, ha⟩ := a.tup_inv
  match xs, hl with
  | [y, z], _ => exact ⟨p, y, z, rfl, h, ha 0 _ _ rfl rfl, ha 1 _ _ rfl rfl⟩
theorem At.ints {H : Hp} {xs : List V} : ∀ {ns : List Int}, xs.length = ns.length → (∀ (i : Nat) (x : V) (d : Dt), xs[i]? = some x → (ns.map Dt.int)[i]? = some d → At H x d) → xs = ns.map V.int := by
  induction xs with
  | nil =>
    intro ns hl _
    cases ns with
    | nil => rfl
    | cons n r => cases hl
  | cons x r ih =>
    intro ns hl h
    cases ns with
    | nil => cases hl
    | cons n m =>
      rw [List.map_cons, (h 0 x (.int n) rfl rfl).int_inv, ih (ns := m) (Nat.succ.inj hl) fun i y d h1 h2 => h (i + 1) y d h1 h2]
/-- a tuple of ints -/
theorem At.of_ints {H : Hp} {p : Addr} {ns : List Int} (h : H p = some (.tup (ns.map V.int))) (hz : ns.length ≤ 100000) : At H (.ref p) (.tup (ns.map Dt.int)) := by
  refine .tup h (by rw [List.length_map]; exact hz) (by simp) fun i x d h1 h2 => ?_
  rw [List.getElem?_map] at h1 h2
  cases e : ns[i]? with
  | none => rw [e] at h1; cases h1
  | some n =>
    rw [e] at h1 h2
    cases Option.some.inj h1
    cases Option.some.inj h2
    exact .int n
theorem At.to_ints {H : Hp} {x : V} {ns : List Int} (a : At H x (.tup (ns.map Dt.int))) : ∃ p, x = .ref p ∧ H p = some (.tup (ns.map V.int)) ∧ ns.length ≤ 100000 := by
  obtain ⟨p, xs, rfl, h, hl, hz, ha⟩ := a.tup_inv
  rw [List.length_map] at hl
  have e := At.ints hl ha
  subst e
  exact ⟨p, rfl, h, by rw [List.length_map] at hz; exact hz⟩
/-! ### order -/
def adjL {α : Type} (r : α → α → Bool) (l : List α) : List Bool := List.zipWith r l (l.drop 1)
def adj {α : Type} (r : α → α → Bool) (l : List α) : Bool := (adjL r l).all id
theorem adjL_length {α : Type} (r : α → α → Bool) (l : List α) : (adjL r l).length = l.length - 1 := by
  unfold adjL
  rw [List.length_zipWith, List.length_drop]
  omega
theorem adjL_get {α : Type} {r : α → α → Bool} {l : List α} {i : Nat} {x y : α} {b : Bool} (hx : l[i]? = some x) (hy : l[i + 1]? = some y) (hb : (adjL r l)[i]? = some b) : b = r x y := by
  unfold adjL at hb
  rw [List.getElem?_zipWith, hx, List.getElem?_drop, Nat.add_comm 1 i, hy] at hb
  exact (Option.some.inj hb).symm
theorem adj_of {α : Type} {r : α → α → Bool} {l : List α} (h : ∀ (i : Nat) (x y : α), l[i]? = some x → l[i + 1]? = some y → r x y = true) : adj r l = true := by
  refine List.all_eq_true.mpr fun b hb => ?_
  obtain ⟨i, hi, e⟩ := List.getElem_of_mem hb
  have hl := adjL_length r l
  have h1 : i < l.length := by omega
  have h2 : i + 1 < l.length := by omega
  have := adjL_get (List.getElem?_eq_getElem h1) (List.getElem?_eq_getElem h2) (List.getElem?_eq_some_iff.mpr ⟨hi, e⟩)
  rw [this]
  exact h i _ _ (List.getElem?_eq_getElem h1) (List.getElem?_eq_getElem h2)
def ints1 : List Dt → List Int
  | .int i :: r => i :: ints1 r
  | _ :: r => ints1 r
  | [] => []
theorem ints1_map : ∀ ns : List Int, ints1 (ns.map Dt.int) = ns
  | [] => rfl
  | n :: r => by
    show n :: ints1 (r.map Dt.int) = n :: r
    rw [ints1_map r]
theorem allInt : ∀ {ds : List Dt}, ds.all isIntD = true → ds = (ints1 ds).map Dt.int
  | [], _ => rfl
  | .int i :: r, h => by
    have h2 : r.all isIntD = true := h
    show Dt.int i :: r = Dt.int i :: (ints1 r).map Dt.int
    rw [← allInt h2]
  | .non :: _, h => by cases h
  | .bl _ :: _, h => by cases h
  | .str _ :: _, h => by cases h
  | .tup _ :: _, h => by cases h
  | .lst _ :: _, h => by cases h
  | .dct :: _, h => by cases h
def ltD : Dt → Dt → Bool
  | .int i, .int j => decide (i < j)
  | .tup a, .tup b => HT.lexLt (ints1 a) (ints1 b)
  | _, _ => false
/-- what < of two values says -/
def Cmp (H : Hp) (x y : V) (b : Bool) : Prop := (∃ i j, x = .int i ∧ y = .int j ∧ b = decide (i < j)) ∨ (∃ p q ns ms, x = .ref p ∧ y = .ref q ∧ H p = some (.tup (ns.map V.int)) ∧ H q = some (.tup (ms.map V.int)) ∧ b = HT.lexLt ns ms)
theorem Cmp.mono {H H' : Hp} (s : Same H H') {x y : V} {b : Bool} (c : Cmp H x y b) : Cmp H' x y b := by
  rcases c with c | ⟨p, q, ns, ms, h1, h2, h3, h4, h5⟩
  · exact .inl c
  · exact .inr ⟨p, q, ns, ms, h1, h2, s _ _ h3, s _ _ h4, h5⟩
abbrev fLtA (K : PySem.W.Frag) : R2 := fun x y H Q => rLtI x y H Q ∨ rLtT K x y H Q
theorem Cmp.run {K : PySem.W.Frag} {H : Hp} {x y : V} {b : Bool} {Q : VK} (c : Cmp H x y b) (q : Q (.bl b) H) : fLtA K x y H Q := by
  rcases c with ⟨i, j, rfl, rfl, rfl⟩ | ⟨p, r, ns, ms, rfl, rfl, h3, h4, rfl⟩
  · exact .inl ⟨_, _, rfl, rfl, q⟩
  · exact .inr ⟨_, _, _, _, rfl, rfl, sqT h3, sqT h4, q⟩
/-! ### the comprehension over zip of two tuples -/
theorem lc_zipT {K : PySem.W.Frag} {a b : Addr} {xs ys : List V} {g : TG} {tt : TT} {te : TE} {vs : List Nat} {σ : L2.St} {H1 : Hp} {D : Addr} {Qd : Hp → Prop} (n : Nat) (hn : n = min xs.length ys.length) (Pv : Nat → Hp → Prop) (h0 : Pv 0 (upd H1 D (.lst [])))
    (hl : ∀ i H, Pv i H → SqT K H a xs ∧ SqT K H b ys)
    (hs : ∀ (i : Nat) (x y : V) (T : Addr) (H : Hp), xs[i]? = some x → ys[i]? = some y → Pv i H → H T = none → g (.ref T) (wipe σ vs) (upd H T (.tup [x, y])) fun σ2 H2 => wipe σ2 vs = wipe σ vs ∧ tt σ2 H2 fun b H3 =>
      if b = true then te σ2 H3 fun y H4 => ∃ acc, H4 D = some (.lst acc) ∧ acc.length < sizeLine ∧ Pv (i + 1) (upd H4 D (.lst (acc ++ [y]))) else Pv (i + 1) H3) (hd : ∀ H, Pv n H → Qd H) :
    ∃ W : Nat → Nat → Hp → Prop, (∃ m, W 0 m (upd H1 D (.lst []))) ∧ ∀ i m H, W i m H →
      ((ItzT K a b).stop i H ∧ Qd H) ∨ ((ItzT K a b).go i H ∧ ∃ Nx : Hp → Prop, (∀ H', Nx H' → ∃ m', m' < m ∧ W (i + 1) m' H') ∧ ∀ x H', (ItzT K a b).yld i H x H' → g x (wipe σ vs) H' fun σ2 H2 => wipe σ2 vs = wipe σ vs ∧ tt σ2 H2 fun b H3 =>
        if b = true then te σ2 H3 fun y H4 => ∃ acc, H4 D = some (.lst acc) ∧ acc.length < sizeLine ∧ Nx (upd H4 D (.lst (acc ++ [y]))) else Nx H3) := by
  refine ⟨fun i m H => m = n - i ∧ i ≤ n ∧ Pv i H, ⟨n, by simp, Nat.zero_le _, h0⟩, ?_⟩
  rintro i m H ⟨rfl, hi, p⟩
  obtain ⟨qa, qb⟩ := hl i H p
  by_cases hlt : i < n
  · have l1 : i < xs.length := by omega
    have l2 : i < ys.length := by omega
    refine .inr ⟨⟨xs, ys, xs[i], ys[i], qa, qb, List.getElem?_eq_getElem l1, List.getElem?_eq_getElem l2⟩, Pv (i + 1), fun H' p' => ⟨n - (i + 1), by omega, rfl, hlt, p'⟩, fun x H' y => ?_⟩
    obtain ⟨T, x1, x2, rfl, nT, rfl, f1, f2⟩ := y
    exact hs i x1 x2 T H (f1 _ qa) (f2 _ qb) p nT
  · have e : i = n := by omega
    subst e
    exact .inl ⟨⟨xs, ys, qa, qb, by omega⟩, hd H p⟩
/-! ### promises -/
def sp_is_int (_ : PySem.W.Frag) : Sp := fun vs H Q _ => ∃ (x : V) (d : Dt), vs = [x] ∧ At H x d ∧ Q (.bl (isIntD d)) H
def sp_is_pair (_ : PySem.W.Frag) : Sp := fun vs H Q _ => ∃ (x : V) (d : Dt), vs = [x] ∧ At H x d ∧ Q (.bl (isPairD d)) H
def sp_rises (_ : PySem.W.Frag) : Sp := fun vs H Q _ => ∃ (p : Addr) (xs : List V) (bs : List Bool), vs = [.ref p] ∧ H p = some (.tup xs) ∧ xs.length ≤ 100000 ∧ bs.length = xs.length - 1 ∧
  (∀ (i : Nat) (x y : V) (b : Bool), xs[i]? = some x → xs[i + 1]? = some y → bs[i]? = some b → Cmp H x y b) ∧ ∀ H', Same H H' → Q (.bl (bs.all id)) H'
abbrev N_is_int : List Str := ["thing"]
def t_is_int (K : PySem.W.Frag) : TS := (tRet (tAndV (tCB (rIsi K) (tCons (tVar 0) (tCons (tC (.ty "int")) tNil))) (tNotV (tCB (rIsi K) (tCons (tVar 0) (tCons (tC (.ty "bool")) tNil))))))
abbrev N_is_pair : List Str := ["thing"]
def t_is_pair (K : PySem.W.Frag) : TS := (tRet (tAndV (tCB (rIsi K) (tCons (tVar 0) (tCons (tC (.ty "tuple")) tNil))) (tOp rEq (tCB (fLen K) (tCons (tVar 0) tNil)) (tC (.int 2)))))
abbrev N_rises : List Str := ["things", "low", "high"]
def t_rises (K : PySem.W.Frag) : TS := (tRet (tCB (rAll K) (tCons (tLc (iZipA K (tCons (tVar 0) (tCons (tSl (rSlA K) (tVar 0) (tPart (tC (.int 1))) tNoPart) tNil))) (gTup K 2 (gCons (gName 1) (gCons (gName 2) gNil))) tYes (tOp (fLtA K) (tVar 1) (tVar 2)) [1, 2]) tNil)))
section
variable {K : PySem.W.Frag} {vs : List V} {H : Hp} {Q : VK} {E : XK}
theorem len_is_int (h : sp_is_int K vs H Q E) : vs.length = 1 := by
  obtain ⟨_, _, rfl, _⟩ := h
  rfl
theorem len_is_pair (h : sp_is_pair K vs H Q E) : vs.length = 1 := by
  obtain ⟨_, _, rfl, _⟩ := h
  rfl
theorem len_rises (h : sp_rises K vs H Q E) : vs.length = 1 := by
  obtain ⟨_, _, _, rfl, _⟩ := h
  rfl
theorem k_lI (d : Dt) : kitB d.ty "int" = some (match d with | .bl _ => true | .int _ => true | _ => false) := by
  cases d with
  | non => exact k_ni
  | bl b => exact k_bi
  | int i => exact k_ii
  | str z => exact k_si
  | tup xs => exact k_ti
  | lst xs => exact k_li
  | dct => exact k_di
theorem pure_is_int (h : sp_is_int K vs H Q E) : t_is_int K { nx := fun _ H' => Q .non H', rt := Q } (start N_is_int vs) H := by
  obtain ⟨x, d, rfl, a, k⟩ := h
  refine ⟨_, rfl, isi a.tyX (k_lI d) ⟨_, rfl, ?_⟩⟩
  cases d with
  | bl b => exact iteT ⟨_, rfl, isi a.tyX k_bb ⟨_, rfl, k⟩⟩
  | int i => exact iteT ⟨_, rfl, isi a.tyX k_ib ⟨_, rfl, k⟩⟩
  | _ => exact iteF k
theorem pure_is_pair (h : sp_is_pair K vs H Q E) : t_is_pair K { nx := fun _ H' => Q .non H', rt := Q } (start N_is_pair vs) H := by
  obtain ⟨x, d, rfl, a, k⟩ := h
  refine ⟨_, rfl, isiTup a ⟨_, rfl, ?_⟩⟩
  cases a with
  | @tup p xs ds hp hz hl ha =>
    refine iteT ⟨_, rfl, lenT hp ⟨rfl, ?_⟩⟩
    have e : decide (V.int (xs.length : Int) = V.int 2) = isPairD (.tup ds) := by
      show _ = decide (ds.length = 2)
      rw [← hl]
      by_cases h2 : xs.length = 2
      · rw [decide_eq_true h2, h2]
        rfl
      · rw [decide_eq_false h2]
        exact decide_eq_false fun z => h2 (by have := V.int.inj z; omega)
    rw [e]
    exact k
  | _ => exact iteF k
theorem cut1 (xs : List V) : cutV xs (some 1) none = xs.drop 1 := by
  unfold cutV
  rw [show HT.sIx xs.length 0 (some 1) = min 1 xs.length from HT.sIx_nat xs.length 0 1, HT.sIx_none]
  cases xs with
  | nil => rfl
  | cons x r =>
    rw [show min 1 (x :: r).length = 1 by
      rw [List.length_cons]
      omega]
    show (List.take ((x :: r).length - 1) r) = r
    rw [List.length_cons, Nat.add_sub_cancel]
    exact List.take_length
theorem pure_rises (h : sp_rises K vs H Q E) : t_rises K { nx := fun _ H' => Q .non H', rt := Q } (start N_rises vs) H := by
  obtain ⟨p, xs, bs, rfl, hp, hz, hb, hc, k⟩ := h
  -- zip(things, things[1:]), the second one at any place
  have main : ∀ (q : Addr) (H1 : Hp), Same H H1 → H1 q = some (.tup (xs.drop 1)) → ∀ D, H1 D = none → ∃ W : Nat → Nat → Hp → Prop, (∃ m, W 0 m (upd H1 D (.lst []))) ∧ ∀ i m H, W i m H →
      ((ItzT K p q).stop i H ∧ tNil (start N_rises [V.ref p]) H fun ys H2 => rAll K (.ref D :: ys) H2 Q) ∨ ((ItzT K p q).go i H ∧ ∃ Nx : Hp → Prop, (∀ H', Nx H' → ∃ m', m' < m ∧ W (i + 1) m' H') ∧ ∀ x H', (ItzT K p q).yld i H x H' → gTup K 2 (gCons (gName 1) (gCons (gName 2) gNil)) x (wipe (start N_rises [V.ref p]) [1, 2]) H' fun σ2 H2 => wipe σ2 [1, 2] = wipe (start N_rises [V.ref p]) [1, 2] ∧ tYes σ2 H2 fun b H3 =>
        if b = true then tOp (fLtA K) (tVar 1) (tVar 2) σ2 H3 fun y H4 => ∃ acc, H4 D = some (.lst acc) ∧ acc.length < sizeLine ∧ Nx (upd H4 D (.lst (acc ++ [y]))) else Nx H3) := by
    intro q H1 sm hq D nD
    refine lc_zipT (K := K) (a := p) (b := q) (xs := xs) (ys := xs.drop 1) (xs.length - 1) (by rw [List.length_drop]; omega) (fun i H2 => Same H1 H2 ∧ H2 D = some (.lst ((bs.take i).map V.bl))) ⟨fun b o e => updN (ne_of_none e nD) e, updS⟩ (fun i H2 s2 => ⟨sqT (s2.1 _ _ (sm _ _ hp)), sqT (s2.1 _ _ hq)⟩) (fun i x y T H2 hx hy s2 nT => ?_) (fun H2 s2 => ?_)
    · rw [List.getElem?_drop, Nat.add_comm] at hy
      have hi : i < bs.length := by
        have := (List.getElem?_eq_some_iff.mp hy).1
        omega
      have nTD : D ≠ T := ne_of_none s2.2 nT
      have sT : Same H1 (upd H2 T (.tup [x, y])) := fun b o e => updN (ne_of_none (s2.1 _ _ e) nT) (s2.1 _ _ e)
      refine ⟨T, [x, y], rfl, sqT updS, rfl, x, [y], rfl, y, [], rfl, rfl, rfl, ?_⟩
      refine ⟨_, rfl, _, rfl, Cmp.run ((hc i x y bs[i] hx hy (List.getElem?_eq_getElem hi)).mono (sm.trans sT)) ⟨(bs.take i).map V.bl, updN nTD s2.2, ?_, ?_⟩⟩
      · refine Nat.lt_of_le_of_lt (?_ : _ ≤ 100000) (by decide)
        rw [List.length_map, List.length_take]
        omega
      · refine ⟨fun b o e => updN (ne_of_none e nD) (sT _ _ e), ?_⟩
        rw [updS, List.take_add_one, List.getElem?_eq_getElem hi, List.map_append]
        rfl
    · refine ⟨D, bs, rfl, sqL ?_, k _ (sm.trans s2.1)⟩
      rw [s2.2, List.take_of_length_le (by omega)]
  refine ⟨_, rfl, _, rfl, _, rfl, p, xs, rfl, sqT hp, fun e => ?_, fun e q nq => ?_⟩
  · have e0 : xs.drop 1 = xs := by
      have e1 := e.1
      rw [show HT.sIx xs.length 0 (some 1) = min 1 xs.length from HT.sIx_nat xs.length 0 1] at e1
      have : xs.length = 0 := by omega
      rw [List.eq_nil_of_length_eq_zero this]
      rfl
    exact ⟨p, p, xs, xs, rfl, .inr ⟨sqT hp, sqT hp, main p H (Same.refl H) (by rw [e0]; exact hp)⟩⟩
  · have s1 : Same H (upd H q (.tup (cutV xs (some 1) none))) := fun b o e => updN (ne_of_none e nq) e
    refine ⟨p, q, xs, _, rfl, .inr ⟨sqT (s1 _ _ hp), sqT updS, main q _ s1 ?_⟩⟩
    rw [updS, cut1]
end
/-! ### sets of ints as dicts -/
def setOf (ns : List Int) : List (Key × V) := ns.foldl (fun acc n => putK acc (.inl n) (.bl true)) []
theorem setOf_snoc (ns : List Int) (n : Int) : setOf (ns ++ [n]) = putK (setOf ns) (.inl n) (.bl true) := by
  unfold setOf
  rw [List.foldl_append]
  rfl
theorem setOf_length (ns : List Int) : (setOf ns).length ≤ ns.length := by
  have : ∀ (ns : List Int) (acc : List (Key × V)), (ns.foldl (fun acc n => putK acc (.inl n) (.bl true)) acc).length ≤ acc.length + ns.length := by
    intro ns
    induction ns with
    | nil => intro acc; exact Nat.le_refl _
    | cons n r ih =>
      intro acc
      refine Nat.le_trans (ih (putK acc (.inl n) (.bl true))) ?_
      have := length_putK acc (.inl n : Key) (.bl true)
      rw [List.length_cons]
      omega
  have h := this ns []
  rw [List.length_nil, Nat.zero_add] at h
  exact h
theorem setOf_has (ns : List Int) (j : Int) : (valV (setOf ns) (.inl j)).isSome = ns.contains j := by
  have : ∀ (ns : List Int) (acc : List (Key × V)), (valV (ns.foldl (fun acc n => putK acc (.inl n) (.bl true)) acc) (.inl j)).isSome = ((valV acc (.inl j)).isSome || ns.contains j) := by
    intro ns
    induction ns with
    | nil => intro acc; simp
    | cons n r ih =>
      intro acc
      show (valV (r.foldl (fun acc n => putK acc (.inl n) (.bl true)) (putK acc (.inl n) (.bl true))) (.inl j)).isSome = _
      rw [ih, valV_put, List.contains_cons]
      by_cases e : j = n
      · subst e
        simp
      · have e2 : ¬ (Sum.inl j : Key) = Sum.inl n := fun z => e (Sum.inl.inj z)
        rw [if_neg e2, show (j == n) = false from beq_eq_false_iff_ne.mpr e, Bool.false_or]
  have h := this ns []
  rw [valV_nil] at h
  unfold setOf
  simpa using h
theorem take_snoc {α : Type} {l : List α} {i : Nat} {x : α} (h : l[i]? = some x) : l.take (i + 1) = l.take i ++ [x] := by
  rw [List.take_add_one, h]
  rfl
/-! ### rising, versions, links -/
def isRisingD : Dt → Bool
  | .tup ds => ds.all isIntD && adj ltD ds
  | _ => false
def geZ : Dt → Bool
  | .int i => decide (0 ≤ i)
  | _ => false
def areVersionsD : Dt → Bool
  | .tup ds => (ds.all isIntD && adj ltD ds) && (decide (ds.length ≤ 400) && ds.all geZ)
  | _ => false
def isLinkD (ns : List Int) : Dt → Bool
  | .tup [.int a, .int b] => ns.contains a && (ns.contains b && decide (b < a))
  | _ => false
def areLinksD (ns : List Int) : Dt → Bool
  | .tup ds => decide (ds.length ≤ 2000) && (ds.all (isLinkD ns) && adj ltD ds)
  | _ => false
def isShapeD : Dt → Bool
  | .tup [v, l] => areVersionsD v && areLinksD (match v with | .tup ds => ints1 ds | _ => []) l
  | _ => false
theorem isLinkD_two (ns : List Int) (a b : Int) : isLinkD ns (.tup [.int a, .int b]) = (ns.contains a && (ns.contains b && decide (b < a))) := rfl
theorem isRisingD_tup (ds : List Dt) : isRisingD (.tup ds) = (ds.all isIntD && adj ltD ds) := rfl
theorem areVersionsD_tup (ds : List Dt) : areVersionsD (.tup ds) = ((ds.all isIntD && adj ltD ds) && (decide (ds.length ≤ 400) && ds.all geZ)) := rfl
theorem areLinksD_tup (ns : List Int) (ds : List Dt) : areLinksD ns (.tup ds) = (decide (ds.length ≤ 2000) && (ds.all (isLinkD ns) && adj ltD ds)) := rfl
def isIntsD : Dt → Bool
  | .tup ds => ds.all isIntD
  | _ => false
def sp_is_intsD (_ : PySem.W.Frag) : Sp := fun vs H Q _ => ∃ (x : V) (d : Dt), vs = [x] ∧ At H x d ∧ ∀ H', Same H H' → Q (.bl (isIntsD d)) H'
theorem len_is_intsD {K : PySem.W.Frag} {vs : List V} {H : Hp} {Q : VK} {E : XK} (h : sp_is_intsD K vs H Q E) : vs.length = 1 := by
  obtain ⟨_, _, rfl, _⟩ := h
  rfl
def sp_is_rising (_ : PySem.W.Frag) : Sp := fun vs H Q _ => ∃ (x : V) (d : Dt), vs = [x] ∧ At H x d ∧ ∀ H', Same H H' → Q (.bl (isRisingD d)) H'
def sp_are_versions (_ : PySem.W.Frag) : Sp := fun vs H Q _ => ∃ (x : V) (d : Dt), vs = [x] ∧ At H x d ∧ ∀ H', Same H H' → Q (.bl (areVersionsD d)) H'
def sp_is_link (_ : PySem.W.Frag) : Sp := fun vs H Q _ => ∃ (x : V) (d : Dt) (k : Addr) (kvs : List (Key × V)) (ns : List Int), vs = [x, .ref k] ∧ At H x d ∧ H k = some (.dK kvs) ∧ (∀ i : Int, (valV kvs (.inl i)).isSome = ns.contains i) ∧ Q (.bl (isLinkD ns d)) H
def sp_are_links (_ : PySem.W.Frag) : Sp := fun vs H Q _ => ∃ (x y : V) (d : Dt) (ns : List Int), vs = [x, y] ∧ At H x d ∧ At H y (.tup (ns.map Dt.int)) ∧ ∀ H', Same H H' → Q (.bl (areLinksD ns d)) H'
abbrev N_is_ints : List Str := ["thing", "part"]
def t_is_ints (K : PySem.W.Frag) : TS := (tRet (tAndV (tCB (rIsi K) (tCons (tVar 0) (tCons (tC (.ty "tuple")) tNil))) (tCB (rAll K) (tCons (tLc (iTup K (tVar 0)) (gName 1) tYes (tCall (sp_is_int K) [] E0 (tCons (tVar 1) tNil)) [1]) tNil))))
abbrev N_is_rising : List Str := ["thing"]
def t_is_rising (K : PySem.W.Frag) : TS := (tRet (tAndV (tCall (sp_is_intsD K) [] E0 (tCons (tVar 0) tNil)) (tCall (sp_rises K) [] E0 (tCons (tVar 0) tNil))))
abbrev N_are_versions : List Str := ["thing", "version"]
def t_are_versions (K : PySem.W.Frag) : TS := (tRet (tAndV (tCall (sp_is_rising K) [] E0 (tCons (tVar 0) tNil)) (tAndV (tOp rLeI (tCB (fLen K) (tCons (tVar 0) tNil)) (tC (.int 400))) (tCB (rAll K) (tCons (tLc (iTup K (tVar 0)) (gName 1) tYes (tOp rGeI (tVar 1) (tC (.int 0))) [1]) tNil)))))
abbrev N_is_link : List Str := ["thing", "known"]
def t_is_link (K : PySem.W.Frag) : TS := (tSeq (tIfS (tOr (tNot (tB (tCall (sp_is_pair K) [] E0 (tCons (tVar 0) tNil)))) (tOr (tNot (tB (tCall (sp_is_int K) [] E0 (tCons (tOp (rIx K) (tVar 0) (tC (.int 0))) tNil)))) (tNot (tB (tCall (sp_is_int K) [] E0 (tCons (tOp (rIx K) (tVar 0) (tC (.int 1))) tNil)))))) (tRet (tC (.bl false))) tNext)
    (tRet (tAndV (tDIn (tOp (rIx K) (tVar 0) (tC (.int 0))) (tVar 1)) (tAndV (tDIn (tOp (rIx K) (tVar 0) (tC (.int 1))) (tVar 1)) (tOp rLtI (tOp (rIx K) (tVar 0) (tC (.int 1))) (tOp (rIx K) (tVar 0) (tC (.int 0))))))))
abbrev N_are_links : List Str := ["thing", "versions", "known", "version", "link"]
def t_are_links (K : PySem.W.Frag) : TS := (tSeq (tIfS (tOr (tNot (tB (tCB (rIsi K) (tCons (tVar 0) (tCons (tC (.ty "tuple")) tNil))))) (tTest (tOp rGtI (tCB (fLen K) (tCons (tVar 0) tNil)) (tC (.int 2000))))) (tRet (tC (.bl false))) tNext)
    (tSeq (tAsg (tDc (iTup K (tVar 1)) (gName 3) tYes (tVar 3) (tC (.bl true)) [3]) (gName 2))
    (tRet (tAndV (tCB (rAll K) (tCons (tLc (iTup K (tVar 0)) (gName 4) tYes (tCall (sp_is_link K) [] E0 (tCons (tVar 4) (tCons (tVar 2) tNil))) [4]) tNil)) (tCall (sp_rises K) [] E0 (tCons (tVar 0) tNil))))))
theorem cmp_of {H : Hp} {x y : V} {d e : Dt} (ax : At H x d) (ay : At H y e) (h : (∃ i j, d = .int i ∧ e = .int j) ∨ (∃ a b c f, d = .tup [.int a, .int b] ∧ e = .tup [.int c, .int f])) : Cmp H x y (ltD d e) := by
  rcases h with ⟨i, j, rfl, rfl⟩ | ⟨a, b, c, f, rfl, rfl⟩
  · exact .inl ⟨i, j, ax.int_inv, ay.int_inv, rfl⟩
  · obtain ⟨p, u, v, rfl, hp, a1, a2⟩ := ax.pair_inv
    obtain ⟨q, s, t, rfl, hq, b1, b2⟩ := ay.pair_inv
    rw [a1.int_inv, a2.int_inv] at hp
    rw [b1.int_inv, b2.int_inv] at hq
    exact .inr ⟨p, q, [a, b], [c, f], rfl, rfl, hp, hq, rfl⟩
section
variable {K : PySem.W.Frag} {vs : List V} {H : Hp} {Q : VK} {E : XK}
theorem len_is_rising (h : sp_is_rising K vs H Q E) : vs.length = 1 := by
  obtain ⟨_, _, rfl, _⟩ := h
  rfl
theorem len_are_versions (h : sp_are_versions K vs H Q E) : vs.length = 1 := by
  obtain ⟨_, _, rfl, _⟩ := h
  rfl
theorem len_is_link (h : sp_is_link K vs H Q E) : vs.length = 2 := by
  obtain ⟨_, _, _, _, _, rfl, _⟩ := h
  rfl
theorem len_are_links (h : sp_are_links K vs H Q E) : vs.length = 2 := by
  obtain ⟨_, _, _, _, rfl, _⟩ := h
  rfl
theorem map_all {α : Type} (f : α → Bool) (l : List α) : (l.map f).all id = l.all f := by
  rw [List.all_map]
  rfl
/-- rises of a tuple that is data of which all are ints, or all pairs of ints -/
theorem rises_at {p : Addr} {xs : List V} {ds : List Dt} {R : VK} (hp : H p = some (.tup xs)) (hz : xs.length ≤ 100000) (hl : xs.length = ds.length) (ha : ∀ (i : Nat) (x : V) (d : Dt), xs[i]? = some x → ds[i]? = some d → At H x d)
    (hd : (∀ d ∈ ds, ∃ i, d = .int i) ∨ ∀ d ∈ ds, ∃ a b, d = .tup [.int a, .int b]) (k : ∀ H', Same H H' → R (.bl (adj ltD ds)) H') : sp_rises K [.ref p] H R E := by
  refine ⟨p, xs, adjL ltD ds, rfl, hp, hz, by rw [adjL_length, hl], fun i x y b hx hy hb => ?_, k⟩
  have h1 : i < ds.length := by
    rw [← hl]
    exact (List.getElem?_eq_some_iff.mp hx).1
  have h2 : i + 1 < ds.length := by
    rw [← hl]
    exact (List.getElem?_eq_some_iff.mp hy).1
  have e1 := List.getElem?_eq_getElem h1
  have e2 := List.getElem?_eq_getElem h2
  rw [adjL_get e1 e2 hb]
  refine cmp_of (ha i x _ hx e1) (ha (i + 1) y _ hy e2) ?_
  rcases hd with hd | hd
  · obtain ⟨a, ea⟩ := hd _ (List.getElem_mem h1)
    obtain ⟨b, eb⟩ := hd _ (List.getElem_mem h2)
    exact .inl ⟨a, b, ea, eb⟩
  · obtain ⟨a, b, ea⟩ := hd _ (List.getElem_mem h1)
    obtain ⟨c, f, eb⟩ := hd _ (List.getElem_mem h2)
    exact .inr ⟨a, b, c, f, ea, eb⟩
theorem mem_int {ds : List Dt} (h : ds.all isIntD = true) : ∀ d ∈ ds, ∃ i, d = .int i := fun d hd => by
  have := List.all_eq_true.mp h d hd
  cases d with
  | int i => exact ⟨i, rfl⟩
  | _ => cases this
theorem pure_is_intsD (h : sp_is_intsD K vs H Q E) : t_is_ints K { nx := fun _ H' => Q .non H', rt := Q } (start N_is_ints vs) H := by
  obtain ⟨x, d, rfl, a, k⟩ := h
  refine ⟨_, rfl, isiTup a ⟨_, rfl, ?_⟩⟩
  cases a with
  | @tup p xs ds hp hz hl ha =>
    refine iteT ⟨_, rfl, p, rfl, ⟨_, sqT hp⟩, fun D nD => ?_⟩
    have up : ∀ acc, Same H (upd H D (.lst acc)) := fun acc b o e => updN (ne_of_none e nD) e
    refine lc_mapT (K := K) (a := p) (xs := xs) (ys := (ds.map isIntD).map V.bl) (fun acc => sqT (up acc _ _ hp)) (by simp [hl]) hz (fun i x y acc R hx hy r => ?_) ?_ mono_yes mono_gName
    · rw [List.getElem?_map, List.getElem?_map] at hy
      cases e : ds[i]? with
      | none => rw [e] at hy; cases hy
      | some d =>
        rw [e] at hy
        cases Option.some.inj hy
        exact ⟨rfl, ⟨_, rfl, x, d, rfl, (ha i x d hx e).mono (up acc), r⟩⟩
    · refine ⟨D, _, rfl, sqL updS, ?_⟩
      rw [map_all]
      exact k _ (up _)
  | _ => exact iteF (k _ (Same.refl H))
theorem pure_is_rising (h : sp_is_rising K vs H Q E) : t_is_rising K { nx := fun _ H' => Q .non H', rt := Q } (start N_is_rising vs) H := by
  obtain ⟨x, d, rfl, a, k⟩ := h
  refine ⟨_, rfl, x, d, rfl, a, fun H1 s1 => ⟨_, rfl, ?_⟩⟩
  cases a with
  | @tup p xs ds hp hz hl ha =>
    show if ds.all isIntD = true then _ else _
    refine ite2 (fun e => ?_) (fun e => ?_)
    · refine ⟨_, rfl, rises_at (K := K) (E := E0) (ds := ds) (s1 _ _ hp) hz hl (fun i x d h1 h2 => (ha i x d h1 h2).mono s1) (.inl (mem_int e)) fun H' s => ?_⟩
      have := k H' (s1.trans s)
      rw [isRisingD_tup, e, Bool.true_and] at this
      exact this
    · have e2 : ds.all isIntD = false := by
        cases q : ds.all isIntD with
        | true => exact absurd q e
        | false => rfl
      have := k _ s1
      rw [isRisingD_tup, e2, Bool.false_and] at this
      exact this
  | _ => exact iteF (k _ s1)
theorem pure_are_versions (h : sp_are_versions K vs H Q E) : t_are_versions K { nx := fun _ H' => Q .non H', rt := Q } (start N_are_versions vs) H := by
  obtain ⟨x, d, rfl, a, k⟩ := h
  refine ⟨_, rfl, x, d, rfl, a, fun H1 s1 => ⟨_, rfl, ?_⟩⟩
  have k1 : ∀ H', Same H1 H' → Q (.bl (areVersionsD d)) H' := fun H' s => k H' (s1.trans s)
  have a1 := a.mono s1
  cases a1 with
  | @tup p xs ds hp hz hl ha =>
    show if (ds.all isIntD && adj ltD ds) = true then _ else _
    refine ite2 (fun e => ?_) (fun e => ?_)
    · refine ⟨_, rfl, lenT hp ⟨_, _, rfl, rfl, _, rfl, ite2 (fun e2 => ?_) (fun e2 => ?_)⟩⟩
      · have e3 : decide (ds.length ≤ 400) = true := by
          have : (xs.length : Int) ≤ 400 := of_decide_eq_true e2
          exact decide_eq_true (by omega)
        refine ⟨_, rfl, p, rfl, ⟨_, sqT hp⟩, fun D nD => ?_⟩
        have up : ∀ acc, Same H1 (upd H1 D (.lst acc)) := fun acc b o e => updN (ne_of_none e nD) e
        refine lc_mapT (K := K) (a := p) (xs := xs) (ys := (ds.map geZ).map V.bl) (fun acc => sqT (up acc _ _ hp)) (by simp [hl]) hz (fun i x y acc R hx hy r => ?_) ?_ mono_yes mono_gName
        · rw [List.getElem?_map, List.getElem?_map] at hy
          cases ee : ds[i]? with
          | none => rw [ee] at hy; cases hy
          | some d =>
            rw [ee] at hy
            cases Option.some.inj hy
            rw [Bool.and_eq_true] at e
            obtain ⟨z, rfl⟩ := mem_int e.1 d (List.mem_of_getElem? ee)
            have := (ha i x _ hx ee).int_inv
            subst this
            exact ⟨rfl, ⟨_, rfl, _, _, rfl, rfl, r⟩⟩
        · refine ⟨D, _, rfl, sqL updS, ?_⟩
          rw [map_all]
          have := k1 _ (up ((ds.map geZ).map V.bl))
          rw [areVersionsD_tup, e, e3, Bool.true_and, Bool.true_and] at this
          exact this
      · have e3 : decide (ds.length ≤ 400) = false := decide_eq_false fun z => e2 (decide_eq_true (by omega))
        have := k1 _ (Same.refl H1)
        rw [areVersionsD_tup, e, e3, Bool.true_and, Bool.false_and] at this
        exact this
    · have e2 : (ds.all isIntD && adj ltD ds) = false := by
        cases q : (ds.all isIntD && adj ltD ds) with
        | true => exact absurd q e
        | false => rfl
      have := k1 _ (Same.refl H1)
      rw [areVersionsD_tup, e2, Bool.false_and] at this
      exact this
  | _ => exact iteF (k1 _ (Same.refl H1))
theorem link_no {ns : List Int} {e f : Dt} (h : ¬ (isIntD e = true ∧ isIntD f = true)) : isLinkD ns (.tup [e, f]) = false := by
  cases e <;> cases f <;> first | rfl | exact absurd ⟨rfl, rfl⟩ h
theorem pure_is_link (h : sp_is_link K vs H Q E) : t_is_link K { nx := fun _ H' => Q .non H', rt := Q } (start N_is_link vs) H := by
  obtain ⟨x, d, kk, kvs, ns, rfl, a, hk, hh, k⟩ := h
  refine ⟨_, rfl, x, d, rfl, a, _, rfl, ?_⟩
  by_cases hp : isPairD d = true
  · rw [hp]
    refine iteF ?_
    cases d with
    | tup ds =>
      have h2 : ds.length = 2 := of_decide_eq_true hp
      match ds, h2 with
      | [e, f], _ =>
        obtain ⟨p, y, z, rfl, hpp, ay, az⟩ := a.pair_inv
        refine ⟨_, rfl, ixT hpp rfl ⟨y, e, rfl, ay, _, rfl, ?_⟩⟩
        by_cases he : isIntD e = true
        · rw [he]
          refine iteF ⟨_, rfl, ixT hpp rfl ⟨z, f, rfl, az, _, rfl, ?_⟩⟩
          by_cases hf : isIntD f = true
          · rw [hf]
            refine iteF ?_
            cases e with
            | int i =>
              cases f with
              | int j =>
                have ey := ay.int_inv
                have ez := az.int_inv
                subst ey ez
                refine ⟨_, rfl, ixT hpp rfl ⟨_, rfl, kk, _, rfl, DGet.k (k := Sum.inl i) hk, _, rfl, ?_⟩⟩
                rw [hh]
                refine ite2 (fun e1 => ?_) (fun e1 => ?_)
                · refine ⟨_, rfl, ixT hpp rfl ⟨_, rfl, kk, _, rfl, DGet.k (k := Sum.inl j) hk, _, rfl, ?_⟩⟩
                  rw [hh]
                  refine ite2 (fun e2 => ?_) (fun e2 => ?_)
                  · refine ⟨_, rfl, ixT hpp rfl ⟨_, rfl, ixT hpp rfl ⟨_, _, rfl, rfl, ?_⟩⟩⟩
                    rw [isLinkD_two, e1, e2, Bool.true_and, Bool.true_and] at k
                    exact k
                  · rw [isLinkD_two, e1, Bool.eq_false_iff.mpr e2, Bool.true_and, Bool.false_and] at k
                    exact k
                · rw [isLinkD_two, Bool.eq_false_iff.mpr e1, Bool.false_and] at k
                  exact k
              | _ => cases hf
            | _ => cases he
          · rw [Bool.eq_false_iff.mpr hf]
            refine iteT ?_
            rw [link_no (fun q => hf q.2)] at k
            exact k
        · rw [Bool.eq_false_iff.mpr he]
          refine iteT ?_
          rw [link_no (fun q => he q.1)] at k
          exact k
    | _ => cases hp
  · rw [Bool.eq_false_iff.mpr hp]
    refine iteT ?_
    have e : isLinkD ns d = false := by
      cases d with
      | tup ds =>
        match ds, hp with
        | [], _ => rfl
        | [x], _ => cases x <;> rfl
        | [x, y], hp => exact absurd rfl hp
        | x :: y :: z :: r, _ => cases x <;> first | rfl | (cases y <;> rfl)
      | _ => rfl
    rw [e] at k
    exact k
theorem mem_link {ns : List Int} {ds : List Dt} (h : ds.all (isLinkD ns) = true) : ∀ d ∈ ds, ∃ a b, d = .tup [.int a, .int b] := fun d hd => by
  have := List.all_eq_true.mp h d hd
  unfold isLinkD at this
  split at this
  · exact ⟨_, _, rfl⟩
  · cases this
theorem pure_are_links (h : sp_are_links K vs H Q E) : t_are_links K { nx := fun _ H' => Q .non H', rt := Q } (start N_are_links vs) H := by
  obtain ⟨x, y, d, ns, rfl, a, ay, k⟩ := h
  refine ⟨_, rfl, isiTup a ⟨_, rfl, ?_⟩⟩
  cases a with
  | @tup p xs ds hp hz hl ha =>
    refine iteF ⟨_, rfl, lenT hp ⟨_, _, rfl, rfl, _, rfl, ite2 (fun e => ?_) (fun e => ?_)⟩⟩
    · have e2 : decide (ds.length ≤ 2000) = false := decide_eq_false fun z => by
        have : (2000 : Int) < xs.length := of_decide_eq_true e
        omega
      have := k _ (Same.refl H)
      rw [areLinksD_tup, e2, Bool.false_and] at this
      exact this
    · have e2 : decide (ds.length ≤ 2000) = true := by
        refine decide_eq_true ?_
        have : ¬ (2000 : Int) < xs.length := fun z => e (decide_eq_true z)
        omega
      obtain ⟨q, rfl, hq, hnz⟩ := ay.to_ints
      -- known = {version: True for version in versions}
      refine ⟨_, rfl, q, rfl, ⟨_, sqT hq⟩, fun D nD => ?_⟩
      have up : ∀ kvs, Same H (upd H D (.dK kvs)) := fun kvs b o e => updN (ne_of_none e nD) e
      refine dc_tup (K := K) (a := q) (xs := ns.map V.int) (fun i H2 => H2 = upd H D (.dK (setOf (ns.take i)))) (by rw [List.take_zero]; rfl) (fun i H2 _ e => by rw [e]; exact sqT (up _ _ _ hq)) (fun i x H2 hx e => ?_) (fun H2 e => ?_)
      · subst e
        rw [List.getElem?_map] at hx
        cases en : ns[i]? with
        | none => rw [en] at hx; cases hx
        | some n =>
          rw [en] at hx
          cases Option.some.inj hx
          refine ⟨rfl, ⟨_, rfl, setOf (ns.take i), Sum.inl n, rfl, updS, ?_, ?_⟩⟩
          · refine Nat.lt_of_le_of_lt (Nat.le_trans (setOf_length _) ?_ : _ ≤ 100000) (by decide)
            rw [List.length_take]
            omega
          · rw [upd_upd, take_snoc en, setOf_snoc]
      · subst e
        rw [List.length_map, List.take_length]
        -- all([is_link(link, known) for link in thing])
        refine ⟨_, rfl, p, rfl, ⟨_, sqT (up _ _ _ hp)⟩, fun M nM => ?_⟩
        have nMD : M ≠ D := fun z => by rw [z, updS] at nM; cases nM
        have s2 : ∀ acc, Same (upd H D (.dK (setOf ns))) (upd (upd H D (.dK (setOf ns))) M (.lst acc)) := fun acc b o e => updN (ne_of_none e nM) e
        refine lc_mapT (K := K) (a := p) (xs := xs) (ys := (ds.map (isLinkD ns)).map V.bl) (fun acc => sqT (s2 acc _ _ (up _ _ _ hp))) (by simp [hl]) hz (fun i x y acc R hx hy r => ?_) ?_ mono_yes mono_gName
        · rw [List.getElem?_map, List.getElem?_map] at hy
          cases ee : ds[i]? with
          | none => rw [ee] at hy; cases hy
          | some d =>
            rw [ee] at hy
            cases Option.some.inj hy
            exact ⟨rfl, ⟨_, rfl, _, rfl, x, d, D, setOf ns, ns, rfl, (ha i x d hx ee).mono ((up _).trans (s2 acc)), updN nMD.symm updS, setOf_has ns, r⟩⟩
        · refine ⟨M, _, rfl, sqL updS, _, rfl, ?_⟩
          rw [map_all]
          show if ds.all (isLinkD ns) = true then _ else _
          have kk : ∀ H', Same (upd (upd H D (.dK (setOf ns))) M (.lst ((ds.map (isLinkD ns)).map V.bl))) H' → Q (.bl (areLinksD ns (.tup ds))) H' := fun H' s => k H' (((up _).trans (s2 _)).trans s)
          refine ite2 (fun e3 => ?_) (fun e3 => ?_)
          · refine ⟨_, rfl, rises_at (K := K) (E := E0) (ds := ds) (s2 _ _ _ (up _ _ _ hp)) hz hl (fun i x d h1 h2 => (ha i x d h1 h2).mono ((up _).trans (s2 _))) (.inr (mem_link e3)) fun H' s => ?_⟩
            have := kk H' s
            rw [areLinksD_tup, e2, e3, Bool.true_and, Bool.true_and] at this
            exact this
          · have := kk _ (Same.refl _)
            rw [areLinksD_tup, e2, Bool.eq_false_iff.mpr e3, Bool.true_and, Bool.false_and] at this
            exact this
  | _ => exact iteT (k _ (Same.refl H))
end
end Fw

set_option Elab.async false
set_option linter.all false
set_option maxRecDepth 100000
set_option maxHeartbeats 4000000
namespace Fw
open PySem L2 RZ RT
/-! ### good shapes -/
def lkLt (a b : Int × Int) : Prop := a.1 < b.1 ∨ (a.1 = b.1 ∧ a.2 < b.2)
structure Good (vs : List Int) (ls : List (Int × Int)) : Prop where
  inc : vs.Pairwise (· < ·)
  nn : ∀ v ∈ vs, 0 ≤ v
  mem : ∀ l ∈ ls, l.1 ∈ vs ∧ l.2 ∈ vs ∧ l.2 < l.1
  lex : ls.Pairwise lkLt
theorem good_nil : Good [] [] := ⟨.nil, (fun _ h => by cases h), (fun _ h => by cases h), .nil⟩
/-- the links at these addresses -/
def LkAt (H : Hp) (rs : List Addr) (ls : List (Int × Int)) : Prop := rs.length = ls.length ∧ ∀ (i : Nat) (a : Addr) (l : Int × Int), rs[i]? = some a → ls[i]? = some l → H a = some (.tup [.int l.1, .int l.2])
def ShapeAt (H : Hp) (p : Addr) (vs : List Int) (ls : List (Int × Int)) : Prop := ∃ (q r : Addr) (rs : List Addr), H p = some (.tup [.ref q, .ref r]) ∧ H q = some (.tup (vs.map V.int)) ∧ H r = some (.tup (rs.map V.ref)) ∧ LkAt H rs ls
theorem LkAt.mono {H H' : Hp} {rs : List Addr} {ls : List (Int × Int)} (h : LkAt H rs ls) (s : ∀ (a : Addr) (xs : List V), H a = some (.tup xs) → H' a = some (.tup xs)) : LkAt H' rs ls := ⟨h.1, fun i a l h1 h2 => s _ _ (h.2 i a l h1 h2)⟩
theorem ShapeAt.mono {H H' : Hp} {p : Addr} {vs : List Int} {ls : List (Int × Int)} (h : ShapeAt H p vs ls) (s : ∀ (a : Addr) (xs : List V), H a = some (.tup xs) → H' a = some (.tup xs)) : ShapeAt H' p vs ls := by
  obtain ⟨q, r, rs, h1, h2, h3, h4⟩ := h
  exact ⟨q, r, rs, s _ _ h1, s _ _ h2, s _ _ h3, h4.mono s⟩
theorem LkAt.snoc {H : Hp} {rs : List Addr} {ls : List (Int × Int)} {T : Addr} {l : Int × Int} (h : LkAt H rs ls) (hT : H T = some (.tup [.int l.1, .int l.2])) : LkAt H (rs ++ [T]) (ls ++ [l]) := by
  refine ⟨by rw [List.length_append, List.length_append, h.1]; rfl, fun i a m h1 h2 => ?_⟩
  by_cases hi : i < rs.length
  · rw [List.getElem?_append_left hi] at h1
    rw [List.getElem?_append_left (by rw [← h.1]; exact hi)] at h2
    exact h.2 i a m h1 h2
  · have hi2 : i < (rs ++ [T]).length := (List.getElem?_eq_some_iff.mp h1).1
    rw [List.length_append, List.length_singleton] at hi2
    have e : i = rs.length := by omega
    rw [List.getElem?_append_right (by omega), e, Nat.sub_self] at h1
    rw [List.getElem?_append_right (by rw [← h.1]; omega), e, h.1, Nat.sub_self] at h2
    cases Option.some.inj h1
    cases Option.some.inj h2
    exact hT
theorem Dk.upd {c D q : Addr} {ns : List Int} {t : Nat} {H : Hp} {o : HO} (d : Dk c D ns t H) (h1 : q ≠ c) (h2 : q ≠ D) : Dk c D ns t (L2.upd H q o) := by
  obtain ⟨a, b, e, i, n, u, h, r⟩ := d
  exact ⟨a, updN h1.symm b, e, i, n, u, updN h2.symm h, r⟩
theorem Dk.le {c D : Addr} {ns : List Int} {t t' : Nat} {H : Hp} (d : Dk c D ns t H) (h : t ≤ t') : Dk c D ns t' H := by
  obtain ⟨a, b, e, i, n, u, hh, r1, r2, r3, r4, r5⟩ := d
  exact ⟨a, b, e, i, n, u, hh, r1, r2, r3, r4, by omega⟩
theorem Dk.someD {c D : Addr} {ns : List Int} {t : Nat} {H : Hp} (d : Dk c D ns t H) : ∃ xs, H D = some (.lst xs) := by
  obtain ⟨_, _, _, _, _, _, h, _⟩ := d
  exact ⟨_, h⟩
theorem Dk.someC {c D : Addr} {ns : List Int} {t : Nat} {H : Hp} (d : Dk c D ns t H) : ∃ xs, H c = some (.lst xs) := ⟨_, d.2.1⟩
theorem Dk.neD {c D q : Addr} {ns : List Int} {t : Nat} {H : Hp} (d : Dk c D ns t H) (h : H q = none) : q ≠ D := by
  obtain ⟨xs, e⟩ := d.someD
  exact (ne_of_none e h).symm
theorem Dk.neC {c D q : Addr} {ns : List Int} {t : Nat} {H : Hp} (d : Dk c D ns t H) (h : H q = none) : q ≠ c := by
  obtain ⟨xs, e⟩ := d.someC
  exact (ne_of_none e h).symm
/-- all but the deck stands -/
def Kp (D : Addr) (H H' : Hp) : Prop := ∀ b o, H b = some o → b ≠ D → H' b = some o
theorem Kp.refl (D : Addr) (H : Hp) : Kp D H H := fun _ _ e _ => e
theorem Kp.trans {D : Addr} {H H1 H2 : Hp} (a : Kp D H H1) (b : Kp D H1 H2) : Kp D H H2 := fun x o e n => b x o (a x o e n) n
theorem Kp.fr {D : Addr} {H H' : Hp} (f : ∀ b, b ≠ D → H' b = H b) : Kp D H H' := fun b o e n => by rw [f b n]; exact e
theorem Kp.new {D q : Addr} {H : Hp} {o : HO} (n : H q = none) : Kp D H (L2.upd H q o) := fun b u e _ => updN (ne_of_none e n) e
theorem Kp.of_same {D : Addr} {H H' : Hp} (s : Same H H') : Kp D H H' := fun b o e _ => s b o e
theorem Kp.tup {D : Addr} {H H' : Hp} {c : Addr} {ns : List Int} {t : Nat} (k : Kp D H H') (d : Dk c D ns t H) (a : Addr) (xs : List V) (h : H a = some (.tup xs)) : H' a = some (.tup xs) := by
  obtain ⟨ys, e⟩ := d.someD
  exact k a _ h (ne_of h e (by intro z; cases z))
/-- what was free at first, behind what keeps -/
theorem Kp.free {D q : Addr} {H H' : Hp} (k : Kp D H H') (h : H' q = none) (n : q ≠ D) : H q = none := by
  cases e : H q with
  | none => rfl
  | some o => rw [k q o e n] at h; cases h
/-- where two lists of one's own grow: versions and links -/
structure SI (H0 : Hp) (c D LV LL : Addr) (ns : List Int) (t : Nat) (vs : List Int) (rs : List Addr) (ls : List (Int × Int)) (H : Hp) : Prop where
  dk : Dk c D ns t H
  keep : Kp D H0 H
  hv : H LV = some (.lst (vs.map V.int))
  hl : H LL = some (.lst (rs.map V.ref))
  pr : LkAt H rs ls
  d0 : ∃ t0, Dk c D ns t0 H0
  v0 : H0 LV = none
  l0 : H0 LL = none
  ne : LV ≠ LL
section
variable {H0 H H' : Hp} {c D LV LL q : Addr} {ns : List Int} {t t' : Nat} {vs : List Int} {rs : List Addr} {ls : List (Int × Int)} {o : HO}
theorem SI.vD (s : SI H0 c D LV LL ns t vs rs ls H) : LV ≠ D := s.d0.choose_spec.neD s.v0
theorem SI.vC (s : SI H0 c D LV LL ns t vs rs ls H) : LV ≠ c := s.d0.choose_spec.neC s.v0
theorem SI.lD (s : SI H0 c D LV LL ns t vs rs ls H) : LL ≠ D := s.d0.choose_spec.neD s.l0
theorem SI.lC (s : SI H0 c D LV LL ns t vs rs ls H) : LL ≠ c := s.d0.choose_spec.neC s.l0
theorem SI.draw (s : SI H0 c D LV LL ns t vs rs ls H) (d : Dk c D ns t' H') (f : ∀ b, b ≠ D → H' b = H b) : SI H0 c D LV LL ns t' vs rs ls H' :=
  ⟨d, s.keep.trans (.fr f), by rw [f _ s.vD]; exact s.hv, by rw [f _ s.lD]; exact s.hl, s.pr.mono fun a xs h => (Kp.fr f).tup s.dk a xs h, s.d0, s.v0, s.l0, s.ne⟩
theorem SI.new (s : SI H0 c D LV LL ns t vs rs ls H) (n : H q = none) : SI H0 c D LV LL ns t vs rs ls (upd H q o) :=
  ⟨s.dk.upd (s.dk.neC n) (s.dk.neD n), s.keep.trans (.new n), updN (ne_of_none s.hv n) s.hv, updN (ne_of_none s.hl n) s.hl, s.pr.mono fun a xs h => updN (ne_of_none h n) h, s.d0, s.v0, s.l0, s.ne⟩
theorem SI.addV (s : SI H0 c D LV LL ns t vs rs ls H) (x : Int) : SI H0 c D LV LL ns t (vs ++ [x]) rs ls (upd H LV (.lst (vs.map V.int ++ [.int x]))) :=
  ⟨s.dk.upd s.vC s.vD, fun b u e n => updN (ne_of_none e s.v0) (s.keep b u e n), by rw [updS, List.map_append]; rfl, updN s.ne.symm s.hl, s.pr.mono fun a xs h => updN (ne_of h s.hv (by intro z; cases z)) h, s.d0, s.v0, s.l0, s.ne⟩
theorem SI.addL (s : SI H0 c D LV LL ns t vs rs ls H) {T : Addr} {l : Int × Int} (hT : H T = some (.tup [.int l.1, .int l.2])) : SI H0 c D LV LL ns t vs (rs ++ [T]) (ls ++ [l]) (upd H LL (.lst (rs.map V.ref ++ [.ref T]))) :=
  ⟨s.dk.upd s.lC s.lD, fun b u e n => updN (ne_of_none e s.l0) (s.keep b u e n), updN s.ne s.hv, by rw [updS, List.map_append]; rfl, (s.pr.snoc hT).mono fun a xs h => updN (ne_of h s.hl (by intro z; cases z)) h, s.d0, s.v0, s.l0, s.ne⟩
theorem SI.le (s : SI H0 c D LV LL ns t vs rs ls H) (h : t ≤ t') : SI H0 c D LV LL ns t' vs rs ls H := ⟨s.dk.le h, s.keep, s.hv, s.hl, s.pr, s.d0, s.v0, s.l0, s.ne⟩
end
/-- what a maker of shapes promises: a good shape, new -/
def sp_mkshape (most0 lim : Nat) (len : Int → Nat → Prop) (lks : List Int → List (Int × Int) → Prop) : Sp := fun vs H Q _ => ∃ (c D : Addr) (ns : List Int) (t : Nat) (most : Int), vs = [.ref D, .int most] ∧ Dk c D ns t H ∧ 0 ≤ most ∧ most ≤ most0 ∧ t + lim < 1000000000 ∧
  ∀ (p : Addr) (ws : List Int) (ls : List (Int × Int)) (H' : Hp), Kp D H H' → Dk c D ns (t + lim) H' → ShapeAt H' p ws ls → Good ws ls → len most ws.length → lks ws ls → Q (.ref p) H'
abbrev sp_l_shape (_ : PySem.W.Frag) : Sp := sp_mkshape 60 4000 (fun most n => (n : Int) ≤ most) (fun ws ls => ls.length ≤ ws.length * ws.length)
theorem len_mkshape {a b : Nat} {l : Int → Nat → Prop} {lk : List Int → List (Int × Int) → Prop} {vs : List V} {H : Hp} {Q : VK} {E : XK} (h : sp_mkshape a b l lk vs H Q E) : vs.length = 2 := by
  obtain ⟨_, _, _, _, _, rfl, _⟩ := h
  rfl
theorem len_l_shape {K : PySem.W.Frag} {vs : List V} {H : Hp} {Q : VK} {E : XK} (h : sp_l_shape K vs H Q E) : vs.length = 2 := len_mkshape h
abbrev N_l_shape : List Str := ["_law_deck_here", "_law_most", "_law_versions", "_law_last", "_law_far", "_law_road", "_law_links", "_law_k", "_law_j", "_law_hit"]
def t_l_shape_h3 (K : PySem.W.Frag) : TS := (tIfS (tB (tVar 9)) (tDrop (tBM K "list" rAppend (tVar 6) (tCons (tTup (tCons (tVar 3) (tCons (tOp (rIx K) (tVar 2) (tVar 8)) tNil))) tNil))) tNext)
def t_l_shape_h2 (K : PySem.W.Frag) : TS := (tSeq (tIfS (tAnd (tTest (tOp rEq (tVar 5) (tC (.int 2)))) (tTest (tOp rEq (tVar 8) (tOp rSubI (tVar 7) (tC (.int 1)))))) (tAsg (tC (.bl true)) (gName 9)) tNext)
    (t_l_shape_h3 K))
def t_l_shape_h1 (K : PySem.W.Frag) : TS := (tSeq (tIfS (tAnd (tTest (tOp rEq (tVar 5) (tC (.int 1)))) (tTest (tOp rGtI (tOp rSubI (tVar 7) (tVar 8)) (tC (.int 2))))) (tAsg (tC (.bl false)) (gName 9)) tNext)
    (t_l_shape_h2 K))
def t_l_shape_app (K : PySem.W.Frag) : TS := (tDrop (tBM K "list" rAppend (tVar 2) (tCons (tVar 3) tNil)))
def t_l_shape_inner (K : PySem.W.Frag) : TS := (tSeq (tFor (iRng1 (tCons (tVar 7) tNil)) (gName 8) (tSeq (tAsg (tOp rEq (tCall (sp_l_draw K) [] E0 (tCons (tVar 0) (tCons (tOp (rIx K) (tLst (tCons (tC (.int 3)) (tCons (tC (.int 2)) (tCons (tC (.int 6)) (tCons (tC (.int 9)) tNil))))) (tVar 5)) tNil))) (tC (.int 0))) (gName 9))
    (t_l_shape_h1 K)))
    (t_l_shape_app K))
def t_l_shape_end (K : PySem.W.Frag) : TS := (tRet (tTup (tCons (tCB (fTupleOf K) (tCons (tVar 2) tNil)) (tCons (tCB (fTupleOf K) (tCons (tVar 6) tNil)) tNil))))
def t_l_shape (K : PySem.W.Frag) : TS := (tSeq (tAsg (tLst tNil) (gName 2))
    (tSeq (tAsg (tUn rNegI (tC (.int 1))) (gName 3))
    (tSeq (tAsg (tCall (sp_l_draw K) [] E0 (tCons (tVar 0) (tCons (tC (.int 4)) tNil))) (gName 4))
    (tSeq (tAsg (tCall (sp_l_draw K) [] E0 (tCons (tVar 0) (tCons (tC (.int 4)) tNil))) (gName 5))
    (tSeq (tAsg (tLst tNil) (gName 6))
    (tSeq (tFor (iRng1 (tCons (tCall (sp_l_draw K) [] E0 (tCons (tVar 0) (tCons (tOp rAddI (tVar 1) (tC (.int 1))) tNil))) tNil)) (gName 7) (tSeq (tAsg (tOp rAddI (tOp rAddI (tVar 3) (tC (.int 1))) (tCall (sp_l_draw K) [] E0 (tCons (tVar 0) (tCons (tC (.int 3)) tNil)))) (gName 3))
    (tSeq (tIfS (tAnd (tTest (tOp rEq (tVar 4) (tC (.int 0)))) (tTest (tOp rEq (tCall (sp_l_draw K) [] E0 (tCons (tVar 0) (tCons (tC (.int 4)) tNil))) (tC (.int 0))))) (tAsg (tOp rAddI (tVar 3) (tCall (sp_l_draw K) [] E0 (tCons (tVar 0) (tCons (tOp rPowI (tC (.int 10)) (tC (.int 18))) tNil)))) (gName 3)) tNext)
    (t_l_shape_inner K))))
    (t_l_shape_end K)))))))
theorem pick4 {w : Int} (h0 : 0 ≤ w) (h1 : w < 4) : ∃ m : Int, atI [V.int 3, .int 2, .int 6, .int 9] w = some (.int m) ∧ 0 < m ∧ m ≤ 9 := by
  have : w = 0 ∨ w = 1 ∨ w = 2 ∨ w = 3 := by omega
  rcases this with rfl | rfl | rfl | rfl
  · exact ⟨3, rfl, by decide, by decide⟩
  · exact ⟨2, rfl, by decide, by decide⟩
  · exact ⟨6, rfl, by decide, by decide⟩
  · exact ⟨9, rfl, by decide, by decide⟩
/-- the links while those of one version are drawn: last is above all of vs -/
structure GI (vs : List Int) (ls : List (Int × Int)) (last : Int) (j : Nat) : Prop where
  inc : vs.Pairwise (· < ·)
  nn : ∀ v ∈ vs, 0 ≤ v
  top : ∀ v ∈ vs, v < last
  lz : 0 ≤ last
  mem : ∀ l ∈ ls, (l.1 ∈ vs ∨ l.1 = last) ∧ l.2 ∈ vs ∧ l.2 < l.1
  lex : ls.Pairwise lkLt
  new : ∀ l ∈ ls, l.1 < last ∨ (l.1 = last ∧ ∀ (i : Nat) (w : Int), j ≤ i → vs[i]? = some w → l.2 < w)
theorem GI.skip {vs : List Int} {ls : List (Int × Int)} {last : Int} {j : Nat} (g : GI vs ls last j) : GI vs ls last (j + 1) :=
  ⟨g.inc, g.nn, g.top, g.lz, g.mem, g.lex, fun l hl => (g.new l hl).imp id fun h => ⟨h.1, fun i w hi => h.2 i w (by omega)⟩⟩
theorem GI.hit {vs : List Int} {ls : List (Int × Int)} {last w : Int} {j : Nat} (g : GI vs ls last j) (hw : vs[j]? = some w) : GI vs (ls ++ [(last, w)]) last (j + 1) := by
  have hm : w ∈ vs := List.mem_of_getElem? hw
  refine ⟨g.inc, g.nn, g.top, g.lz, fun l hl => ?_, ?_, fun l hl => ?_⟩
  · rcases List.mem_append.mp hl with hl | hl
    · exact g.mem l hl
    · cases List.mem_singleton.mp hl
      exact ⟨.inr rfl, hm, g.top w hm⟩
  · refine List.pairwise_append.mpr ⟨g.lex, List.pairwise_singleton _ _, fun l hl m hm2 => ?_⟩
    cases List.mem_singleton.mp hm2
    rcases g.new l hl with h | h
    · exact .inl h
    · exact .inr ⟨h.1, h.2 j w (Nat.le_refl _) hw⟩
  · rcases List.mem_append.mp hl with hl | hl
    · exact g.skip.new l hl
    · cases List.mem_singleton.mp hl
      refine .inr ⟨rfl, fun i u hi hu => ?_⟩
      have h1 := (List.getElem?_eq_some_iff.mp hw)
      have h2 := (List.getElem?_eq_some_iff.mp hu)
      obtain ⟨l1, e1⟩ := h1
      obtain ⟨l2, e2⟩ := h2
      have := List.pairwise_iff_getElem.mp g.inc j i l1 l2 (by omega)
      show w < u
      rw [← e1, ← e2]
      exact this
theorem GI.close {vs : List Int} {ls : List (Int × Int)} {last : Int} {j : Nat} (g : GI vs ls last j) : Good (vs ++ [last]) ls := by
  refine ⟨List.pairwise_append.mpr ⟨g.inc, List.pairwise_singleton _ _, fun a ha b hb => ?_⟩, fun v hv => ?_, fun l hl => ?_, g.lex⟩
  · cases List.mem_singleton.mp hb
    exact g.top a ha
  · rcases List.mem_append.mp hv with hv | hv
    · exact g.nn v hv
    · cases List.mem_singleton.mp hv
      exact g.lz
  · obtain ⟨h1, h2, h3⟩ := g.mem l hl
    refine ⟨?_, List.mem_append_left _ h2, h3⟩
    rcases h1 with h1 | h1
    · exact List.mem_append_left _ h1
    · exact List.mem_append_right _ (by rw [h1]; exact List.mem_singleton.mpr rfl)
theorem GI.open {vs : List Int} {ls : List (Int × Int)} {last : Int} (g : Good vs ls) (h : ∀ v ∈ vs, v < last) (h0 : 0 ≤ last) : GI vs ls last 0 :=
  ⟨g.inc, g.nn, h, h0, fun l hl => ⟨.inl (g.mem l hl).1, (g.mem l hl).2⟩, g.lex, fun l hl => .inl (h _ (g.mem l hl).1)⟩
theorem shape_end {K : PySem.W.Frag} {H0 H : Hp} {c D LV LL : Addr} {ns : List Int} {t : Nat} {vs : List Int} {rs : List Addr} {ls : List (Int × Int)} {Q : VK} (s : SI H0 c D LV LL ns t vs rs ls H)
    (k : ∀ p H', Kp D H0 H' → Dk c D ns t H' → ShapeAt H' p vs ls → Q (.ref p) H') : ∀ p, H p = none → ∀ r, upd H p (.tup (vs.map V.int)) r = none → ∀ w, upd (upd H p (.tup (vs.map V.int))) r (.tup (rs.map V.ref)) w = none →
      Q (.ref w) (upd (upd (upd H p (.tup (vs.map V.int))) r (.tup (rs.map V.ref))) w (.tup [.ref p, .ref r])) := by
  intro p np r nr w nw
  have s1 : SI H0 c D LV LL ns t vs rs ls (upd H p (.tup (vs.map V.int))) := s.new np
  have s2 : SI H0 c D LV LL ns t vs rs ls (upd (upd H p (.tup (vs.map V.int))) r (.tup (rs.map V.ref))) := s1.new nr
  have s3 : SI H0 c D LV LL ns t vs rs ls (upd (upd (upd H p (.tup (vs.map V.int))) r (.tup (rs.map V.ref))) w (.tup [.ref p, .ref r])) := s2.new nw
  have npr : p ≠ r := fun e => by rw [← e, updS] at nr; cases nr
  have npw : p ≠ w := fun e => by rw [← e, upd_ne npr, updS] at nw; cases nw
  have nrw : r ≠ w := fun e => by rw [← e, updS] at nw; cases nw
  exact k w _ s3.keep s3.dk ⟨p, r, rs, updS, updN npw (updN npr updS), updN nrw updS, s3.pr⟩
/-- the state of the outer loop -/
def ShO (H : Hp) (c D LV LL : Addr) (ns : List Int) (most far road : Int) (t : Nat) (i : Nat) (σ : L2.St) (H' : Hp) : Prop := ∃ (ws : List Int) (rs : List Addr) (ls : List (Int × Int)) (last : Int) (z7 z8 z9 : Option V),
  σ = [some (.ref D), some (.int most), some (.ref LV), some (.int last), some (.int far), some (.int road), some (.ref LL), z7, z8, z9] ∧
    SI H c D LV LL ns (t + 3 + 64 * i) ws rs ls H' ∧ Good ws ls ∧ ws.length = i ∧ (∀ v ∈ ws, v ≤ last) ∧ -1 ≤ last ∧ ls.length ≤ i * i
/-- the state of the inner one -/
def ShN (H : Hp) (c D LV LL : Addr) (ns : List Int) (most far road last : Int) (t : Nat) (i : Nat) (ws : List Int) (j : Nat) (σ : L2.St) (H' : Hp) : Prop := ∃ (rs : List Addr) (ls : List (Int × Int)) (z8 z9 : Option V),
  σ = [some (.ref D), some (.int most), some (.ref LV), some (.int last), some (.int far), some (.int road), some (.ref LL), some (.int (0 + (i : Int))), z8, z9] ∧
    SI H c D LV LL ns (t + j) ws rs ls H' ∧ GI ws ls last j ∧ ls.length ≤ i * i + j
theorem pure_l_shape {K : PySem.W.Frag} {vs : List V} {H : Hp} {Q : VK} {E : XK} (h : sp_l_shape K vs H Q E) : t_l_shape K { nx := fun _ H' => Q .non H', rt := Q } (start N_l_shape vs) H := by
  obtain ⟨c, D, ns, t, most, rfl, dk, m0, m1, ht, k⟩ := h
  refine ⟨Nat.zero_le _, fun LV nV => ⟨_, rfl, ?_⟩⟩
  have d1 := dk.upd (o := .lst []) (dk.neC nV) (dk.neD nV)
  refine ⟨_, rfl, c, D, ns, t, 4, rfl, d1, by omega, by decide, by decide, fun far H1 f0 f1 d2 fr1 => ?_⟩
  refine ⟨_, rfl, c, D, ns, t + 1, 4, rfl, d2, by omega, by decide, by decide, fun road H2 r0 r1 d3 fr2 => ?_⟩
  refine ⟨Nat.zero_le _, fun LL nL => ?_⟩
  have hV2 : H2 LV = some (.lst []) := by rw [fr2 _ (dk.neD nV), fr1 _ (dk.neD nV)]; exact updS
  have nVL : LV ≠ LL := ne_of_none hV2 nL
  have k2 : Kp D H H2 := ((Kp.new nV).trans (.fr fr1)).trans (.fr fr2)
  have nL0 : H LL = none := k2.free nL (d3.neD nL)
  have s0 : SI H c D LV LL ns (t + 1 + 1) [] [] [] (upd H2 LL (.lst [])) :=
    ⟨d3.upd (d3.neC nL) (d3.neD nL), k2.trans (.new nL), updN nVL hV2, updS, ⟨rfl, fun i a l h1 _ => by cases h1⟩, ⟨t, dk⟩, nV, nL0, nVL⟩
  have m100 : (most + 1).natAbs < 2 ^ 100 := small100 (by omega)
  refine ⟨_, rfl, _, rfl, _, _, rfl, rfl, c, D, ns, t + 1 + 1, most + 1, rfl, s0.dk, by omega, by omega, m100, fun n H3 n0 n1 d4 fr3 => ⟨_, rfl, by omega, by omega, ?_⟩⟩
  refine for_range (lo := 0) (n := n.toNat) (ShO H c D LV LL ns most far road t) ?_ ?_ ?_
  · exact ⟨[], [], [], -1, none, none, none, rfl, s0.draw d4 fr3, good_nil, rfl, (fun _ h => by cases h), Int.le_refl _, Nat.le_refl _⟩
  · rintro i σ H' hi ⟨ws, rs, ls, last, z7, z8, z9, rfl, s, g, hw, hlast, hl1, hlen⟩
    have hi60 : i < 61 := by omega
    -- last = last + 1 + draw(3)
    refine ⟨_, rfl, _, _, rfl, rfl, _, rfl, c, D, ns, _, 3, rfl, s.dk, by omega, by decide, by decide, fun x H4 x0 x1 d5 fr4 => ⟨_, _, rfl, rfl, ?_⟩⟩
    have sA := s.draw d5 fr4
    -- what stands from the inner loop on
    have inner : ∀ (last' : Int) (t' : Nat) (H5 : Hp) (z8 z9 : Option V) (Dd : Ends), (∀ σ H', ShO H c D LV LL ns most far road t (i + 1) σ H' → Dd.nx σ H') → last < last' → t' ≤ t + 3 + 64 * i + 3 → SI H c D LV LL ns t' ws rs ls H5 →
        t_l_shape_inner K Dd [some (.ref D), some (.int most), some (.ref LV), some (.int last'), some (.int far), some (.int road), some (.ref LL), some (.int (0 + (i : Int))), z8, z9] H5 := by
      intro last' t' H5 z8 z9 Dd kd hlt htt s5
      have g0 : GI ws ls last' 0 := .open g (fun v hv => by have := hlast v hv; omega) (by omega)
      refine ⟨_, rfl, _, rfl, by omega, by omega, ?_⟩
      refine for_range (lo := 0) (n := (0 + (i : Int)).toNat) (ShN H c D LV LL ns most far road last' t' i ws) ?_ ?_ ?_
      · exact ⟨rs, ls, z8, z9, rfl, s5, g0, hlen⟩
      · rintro j σ H6 hj ⟨rs, ls, z8, z9, rfl, s6, g6, hlen6⟩
        have hj2 : j < ws.length := by omega
        have hwj : ws[j]? = some ws[j] := List.getElem?_eq_getElem hj2
        -- the last if, the hit known
        have h3 : ∀ (b : Bool) (H7 : Hp) (Dd : Ends), (∀ σ H', ShN H c D LV LL ns most far road last' t' i ws (j + 1) σ H' → Dd.nx σ H') → SI H c D LV LL ns (t' + j + 1) ws rs ls H7 → t_l_shape_h3 K Dd
            [some (.ref D), some (.int most), some (.ref LV), some (.int last'), some (.int far), some (.int road), some (.ref LL), some (.int (0 + (i : Int))), some (.int (0 + (j : Int))), some (.bl b)] H7 := by
          intro b H7 Dd kd s7
          refine ⟨_, rfl, _, rfl, ?_⟩
          cases b with
          | false => exact iteF (kd _ _ ⟨rs, ls, _, _, rfl, s7, g6.skip, by omega⟩)
          | true =>
            refine iteT ⟨_, rfl, .inl ⟨rfl, _, sqL s7.hl⟩, _, rfl, _, rfl, _, rfl, ixL s7.hv (v := .int ws[j]) ?_ ⟨by show (2 : Nat) ≤ sizeLine; decide, fun T nT => ?_⟩⟩
            · rw [Int.zero_add]
              exact atI_nat (by rw [List.getElem?_map, hwj]; rfl)
            · have s8 : SI H c D LV LL ns (t' + j + 1) ws rs ls (upd H7 T (.tup [.int last', .int ws[j]])) := s7.new nT
              have nTL : T ≠ LL := (ne_of_none s7.hl nT).symm
              refine ⟨LL, _, _, rfl, rfl, s8.hl, ?_, ?_⟩
              · rw [List.length_map, s7.pr.1]
                have : i * i ≤ 60 * 60 := Nat.mul_le_mul (by omega) (by omega)
                exact Nat.lt_of_le_of_lt (show ls.length ≤ 4000 by omega) (by decide)
              · exact kd _ _ ⟨rs ++ [T], ls ++ [(last', ws[j])], _, _, rfl, s8.addL (l := (last', ws[j])) updS, g6.hit hwj, by rw [List.length_append, List.length_singleton]; omega⟩
        -- hit = draw(..) == 0
        refine ⟨_, rfl, by show (4 : Nat) ≤ sizeLine; decide, fun q nq => ?_⟩
        obtain ⟨m, em, mm0, mm1⟩ := pick4 r0 r1
        have s7 : SI H c D LV LL ns (t' + j) ws rs ls (upd H6 q (.lst [.int 3, .int 2, .int 6, .int 9])) := s6.new nq
        refine ⟨_, rfl, ixL updS em ⟨c, D, ns, _, m, rfl, s7.dk, by omega, mm0, small100 (by omega), fun y H8 y0 y1 d8 fr8 => ⟨rfl, ?_⟩⟩⟩
        have s8 := s7.draw d8 fr8
        have h2 : ∀ (b : Bool) (Dd : Ends), (∀ σ H', ShN H c D LV LL ns most far road last' t' i ws (j + 1) σ H' → Dd.nx σ H') → t_l_shape_h2 K Dd [some (.ref D), some (.int most), some (.ref LV), some (.int last'), some (.int far), some (.int road), some (.ref LL), some (.int (0 + (i : Int))), some (.int (0 + (j : Int))), some (.bl b)] H8 := fun b Dd kd =>
          ⟨_, rfl, rfl, _, rfl, ite2 (fun _ => ⟨_, rfl, _, rfl, _, _, rfl, rfl, rfl, _, rfl, ite2 (fun _ => h3 true H8 _ kd s8) (fun _ => h3 b H8 _ kd s8)⟩) (fun _ => iteF (h3 b H8 _ kd s8))⟩
        refine ⟨_, rfl, rfl, _, rfl, ?_⟩
        refine ite2 (fun _ => ?_) (fun _ => iteF (h2 _ _ fun _ _ z => z))
        exact ⟨_, rfl, _, rfl, _, _, rfl, rfl, _, _, rfl, rfl, _, rfl, ite2 (fun _ => h2 false _ fun _ _ z => z) (fun _ => h2 _ _ fun _ _ z => z)⟩
      · rintro σ H6 ⟨rs, ls, z8, z9, rfl, s6, g6, hlen6⟩
        -- versions.append(last)
        refine ⟨_, rfl, .inl ⟨rfl, _, sqL s6.hv⟩, _, rfl, LV, _, _, rfl, rfl, s6.hv, ?_, ?_⟩
        · rw [List.length_map, hw]
          exact Nat.lt_of_le_of_lt (show i ≤ 1000 by omega) (by decide)
        · refine kd _ _ ⟨ws ++ [last'], rs, ls, last', _, _, _, rfl, (s6.addV last').le (by omega), g6.close, by rw [List.length_append, hw]; rfl, fun v hv => ?_, by omega, ?_⟩
          · rcases List.mem_append.mp hv with hv | hv
            · have := hlast v hv
              omega
            · cases List.mem_singleton.mp hv
              exact Int.le_refl _
          · have : (i + 1) * (i + 1) = i * i + 2 * i + 1 := by rw [Nat.add_mul, Nat.mul_add]; omega
            omega
    -- if far == 0 and draw(4) == 0
    refine ⟨_, rfl, rfl, _, rfl, ite2 (fun _ => ?_) (fun _ => iteF (inner _ _ _ _ _ _ (fun _ _ z => z) (by omega) (by omega) sA))⟩
    refine ⟨_, rfl, c, D, ns, _, 4, rfl, sA.dk, by omega, by decide, by decide, fun y H5 y0 y1 d6 fr5 => ⟨rfl, _, rfl, ?_⟩⟩
    have sB := sA.draw d6 fr5
    refine ite2 (fun _ => ?_) (fun _ => inner _ _ _ _ _ _ (fun _ _ z => z) (by omega) (by omega) sB)
    refine ⟨_, rfl, _, rfl, _, _, rfl, rfl, ⟨by decide, by decide, by decide⟩, c, D, ns, _, _, rfl, sB.dk, by omega, by rw [pow18]; decide, by rw [pow18]; decide, fun z H6 w0 w1 d7 fr6 => ⟨_, _, rfl, rfl, ?_⟩⟩
    exact inner _ _ _ _ _ _ (fun _ _ z => z) (by omega) (by omega) (sB.draw d7 fr6)
  · rintro σ H' ⟨ws, rs, ls, last, z7, z8, z9, rfl, s, g, hw, hlast, hl1, hlen⟩
    refine ⟨_, rfl, LV, _, rfl, .inl ⟨sqL s.hv, fun p np => ⟨_, rfl, LL, _, rfl, .inl ⟨sqL (updN (ne_of_none s.hl np) s.hl), fun r nr => ⟨by show (2 : Nat) ≤ sizeLine; decide, fun w nw => ?_⟩⟩⟩⟩⟩
    exact shape_end (K := K) s (fun p H' k1 d sh => k p ws ls H' k1 (d.le (by omega)) sh g (show ((ws.length : Nat) : Int) ≤ most by rw [hw]; omega) (show ls.length ≤ ws.length * ws.length by rw [hw]; exact hlen)) p np r nr w nw
end Fw

set_option Elab.async false
set_option linter.all false
set_option maxRecDepth 100000
set_option maxHeartbeats 4000000
namespace Fw
open PySem L2 RZ RT
/-! ### long shapes -/
def vsL (a g : Int) (n : Nat) : List Int := (List.range n).map fun k : Nat => a + g * (k : Int)
def lsL (a g : Int) (w n : Nat) : List (Int × Int) := (List.range (n - w)).map fun j : Nat => (a + g * ((w : Int) + (j : Int)), a + g * (j : Int))
theorem vsL_length (a g : Int) (n : Nat) : (vsL a g n).length = n := by simp [vsL]
theorem lsL_length (a g : Int) (w n : Nat) : (lsL a g w n).length = n - w := by simp [lsL]
theorem vsL_get {a g : Int} {n i : Nat} (h : i < n) : (vsL a g n)[i]? = some (a + g * (i : Int)) := by
  simp [vsL, h]
theorem vsL_get_lt {a g : Int} {n i : Nat} {z : Int} (h : (vsL a g n)[i]? = some z) : i < n ∧ z = a + g * (i : Int) := by
  have hi : i < (vsL a g n).length := (List.getElem?_eq_some_iff.mp h).1
  rw [vsL_length] at hi
  rw [vsL_get hi] at h
  exact ⟨hi, (Option.some.inj h).symm⟩
theorem vsL_mem {a g : Int} {n : Nat} {v : Int} (h : v ∈ vsL a g n) : ∃ k : Nat, k < n ∧ v = a + g * (k : Int) := by
  obtain ⟨k, hk, e⟩ := List.mem_map.mp h
  exact ⟨k, List.mem_range.mp hk, e.symm⟩
theorem vsL_mem_of {a g : Int} {n k : Nat} (h : k < n) : a + g * (k : Int) ∈ vsL a g n := List.mem_map.mpr ⟨k, List.mem_range.mpr h, rfl⟩
theorem mono_g {a g : Int} (h : 0 < g) {i j : Nat} (hij : i < j) : a + g * (i : Int) < a + g * (j : Int) := by
  have := Int.mul_lt_mul_of_pos_left (show (i : Int) < (j : Int) by omega) h
  omega
theorem good_long {a g : Int} {w n : Nat} (ha : 0 ≤ a) (hg : 0 < g) (hw : 0 < w) : Good (vsL a g n) (lsL a g w n) := by
  refine ⟨?_, fun v hv => ?_, fun l hl => ?_, ?_⟩
  · exact List.pairwise_map.mpr (List.pairwise_lt_range.imp fun h => mono_g hg h)
  · obtain ⟨k, _, rfl⟩ := vsL_mem hv
    have := Int.mul_nonneg (Int.le_of_lt hg) (show (0 : Int) ≤ (k : Int) by omega)
    omega
  · obtain ⟨j, hj, rfl⟩ := List.mem_map.mp hl
    have hj2 := List.mem_range.mp hj
    have e : ((w : Int) + (j : Int)) = ((w + j : Nat) : Int) := by omega
    refine ⟨?_, vsL_mem_of (by omega), ?_⟩
    · show a + g * ((w : Int) + (j : Int)) ∈ vsL a g n
      rw [e]
      exact vsL_mem_of (by omega)
    · show a + g * (j : Int) < a + g * ((w : Int) + (j : Int))
      rw [e]
      exact mono_g hg (by omega)
  · refine List.pairwise_map.mpr (List.pairwise_lt_range.imp fun {i j} h => .inl ?_)
    show a + g * ((w : Int) + (i : Int)) < a + g * ((w : Int) + (j : Int))
    have e : ∀ x : Nat, ((w : Int) + (x : Int)) = ((w + x : Nat) : Int) := fun x => by omega
    rw [e, e]
    exact mono_g hg (by omega)
/-! ### a comprehension over a range, its elements changing nothing -/
theorem lc_mapR {lo : Int} {n : Nat} {ys : List V} {g : TG} {tt : TT} {te : TE} {vs : List Nat} {σ : L2.St} {H1 : Hp} {D : Addr} {Qd : Hp → Prop} (hl : ys.length = n) (hz : n ≤ 100000)
    (hs : ∀ (i : Nat) (y : V) (acc : List V) (R : VK), i < n → ys[i]? = some y → R y (upd H1 D (.lst acc)) → g (.int (lo + i)) (wipe σ vs) (upd H1 D (.lst acc)) fun σ2 H2 => wipe σ2 vs = wipe σ vs ∧ tt σ2 H2 fun b H3 => if b = true then te σ2 H3 R else False)
    (hd : Qd (upd H1 D (.lst ys))) (mt : ∀ σ H P P', (∀ b H1, P b H1 → P' b H1) → tt σ H P → tt σ H P') (mg : ∀ v σ H P P', (∀ σ1 H1, P σ1 H1 → P' σ1 H1) → g v σ H P → g v σ H P') :
    ∃ W : Nat → Nat → Hp → Prop, (∃ m, W 0 m (upd H1 D (.lst []))) ∧ ∀ i m H, W i m H →
      ((Itr lo n).stop i H ∧ Qd H) ∨ ((Itr lo n).go i H ∧ ∃ Nx : Hp → Prop, (∀ H', Nx H' → ∃ m', m' < m ∧ W (i + 1) m' H') ∧ ∀ x H', (Itr lo n).yld i H x H' → g x (wipe σ vs) H' fun σ2 H2 => wipe σ2 vs = wipe σ vs ∧ tt σ2 H2 fun b H3 =>
        if b = true then te σ2 H3 fun y H4 => ∃ acc, H4 D = some (.lst acc) ∧ acc.length < sizeLine ∧ Nx (upd H4 D (.lst (acc ++ [y]))) else Nx H3) := by
  refine lc_range (lo := lo) (n := n) (fun i H => H = upd H1 D (.lst (ys.take i))) (by rw [List.take_zero]) (fun i H hi e => ?_) (fun H e => by
    rw [e, List.take_of_length_le (by omega)]
    exact hd)
  subst e
  have hi2 : i < ys.length := by omega
  refine mg _ _ _ _ _ (fun σ1 H2 q => ⟨q.1, mt _ _ _ _ (fun b H3 q2 => ?_) q.2⟩) (hs i ys[i] (ys.take i) (fun y H4 => ∃ acc, H4 D = some (.lst acc) ∧ acc.length < sizeLine ∧ upd H4 D (.lst (acc ++ [y])) = upd H1 D (.lst (ys.take (i + 1)))) hi (List.getElem?_eq_getElem hi2) ⟨ys.take i, upd_same, Nat.lt_of_le_of_lt (by rw [List.length_take]; omega : (ys.take i).length ≤ 100000) (by decide), by rw [upd_upd, List.take_add_one, List.getElem?_eq_getElem hi2]; rfl⟩)
  cases b with
  | true => exact q2
  | false => exact q2.elim
def sp_l_long_shape (_ : PySem.W.Frag) : Sp := fun vs H Q _ => ∃ (c D : Addr) (ns : List Int) (t : Nat) (most : Int), vs = [.ref D, .int most] ∧ Dk c D ns t H ∧ 0 ≤ most ∧ most ≤ 400 ∧ t + 4 < 1000000000 ∧
  ∀ (p q r : Addr) (rs : List Addr) (a g : Int) (w n : Nat) (H' : Hp), Kp D H H' → Dk c D ns (t + 4) H' → H' p = some (.tup [.ref q, .ref r, .int (w : Int)]) → H' q = some (.tup ((vsL a g n).map V.int)) → H' r = some (.tup (rs.map V.ref)) → LkAt H' rs (lsL a g w n) →
    0 ≤ a → a < 1000000 → 1 ≤ g → g ≤ 3 → 1 ≤ w → w ≤ 6 → (n : Int) ≤ most → Q (.ref p) H'
theorem len_l_long_shape {K : PySem.W.Frag} {vs : List V} {H : Hp} {Q : VK} {E : XK} (h : sp_l_long_shape K vs H Q E) : vs.length = 2 := by
  obtain ⟨_, _, _, _, _, rfl, _⟩ := h
  rfl
abbrev N_l_long_shape : List Str := ["_law_deck_here", "_law_most", "_law_first", "_law_gap", "_law_width", "_law_many", "_law_versions", "_law_k", "_law_links"]
def t_l_long_shape_links (K : PySem.W.Frag) : TS := (tSeq (tAsg (tLc (iRng2 (tCons (tVar 4) (tCons (tVar 5) tNil))) (gName 7) tYes (tTup (tCons (tOp (rIx K) (tVar 6) (tVar 7)) (tCons (tOp (rIx K) (tVar 6) (tOp rSubI (tVar 7) (tVar 4))) tNil))) [7]) (gName 8))
    (tRet (tTup (tCons (tCB (fTupleOf K) (tCons (tVar 6) tNil)) (tCons (tCB (fTupleOf K) (tCons (tVar 8) tNil)) (tCons (tVar 4) tNil))))))
def t_l_long_shape (K : PySem.W.Frag) : TS := (tSeq (tAsg (tCall (sp_l_draw K) [] E0 (tCons (tVar 0) (tCons (tOp rPowI (tC (.int 10)) (tC (.int 6))) tNil))) (gName 2))
    (tSeq (tAsg (tOp rAddI (tC (.int 1)) (tCall (sp_l_draw K) [] E0 (tCons (tVar 0) (tCons (tC (.int 3)) tNil)))) (gName 3))
    (tSeq (tAsg (tOp rAddI (tC (.int 1)) (tCall (sp_l_draw K) [] E0 (tCons (tVar 0) (tCons (tC (.int 6)) tNil)))) (gName 4))
    (tSeq (tAsg (tCall (sp_l_draw K) [] E0 (tCons (tVar 0) (tCons (tOp rAddI (tVar 1) (tC (.int 1))) tNil))) (gName 5))
    (tSeq (tAsg (tLc (iRng1 (tCons (tVar 5) tNil)) (gName 7) tYes (tOp rAddI (tVar 2) (tOp rMulI (tVar 3) (tVar 7))) [7]) (gName 6))
    (t_l_long_shape_links K))))))
theorem pow6 : (10 : Int) ^ (6 : Int).toNat = 1000000 := by decide
theorem pure_l_long_shape {K : PySem.W.Frag} {vs : List V} {H : Hp} {Q : VK} {E : XK} (h : sp_l_long_shape K vs H Q E) : t_l_long_shape K { nx := fun _ H' => Q .non H', rt := Q } (start N_l_long_shape vs) H := by
  obtain ⟨c, D, ns, t, most, rfl, dk, m0, m1, ht, k⟩ := h
  refine ⟨_, rfl, _, _, rfl, rfl, ⟨by decide, by decide, by decide⟩, c, D, ns, t, _, rfl, dk, by omega, by rw [pow6]; decide, by rw [pow6]; decide, fun a H1 a0 a1 d1 fr1 => ?_⟩
  rw [pow6] at a1
  refine ⟨_, rfl, c, D, ns, _, 3, rfl, d1, by omega, by decide, by decide, fun g H2 g0 g1 d2 fr2 => ⟨_, _, rfl, rfl, ?_⟩⟩
  refine ⟨_, rfl, c, D, ns, _, 6, rfl, d2, by omega, by decide, by decide, fun w H3 w0 w1 d3 fr3 => ⟨_, _, rfl, rfl, ?_⟩⟩
  refine ⟨_, rfl, _, rfl, _, _, rfl, rfl, c, D, ns, _, most + 1, rfl, d3, by omega, by omega, small100 (by omega), fun n H4 n0 n1 d4 fr4 => ?_⟩
  have k4 : Kp D H H4 := (((Kp.fr fr1).trans (.fr fr2)).trans (.fr fr3)).trans (.fr fr4)
  obtain ⟨N, rfl⟩ := Int.eq_ofNat_of_zero_le n0
  obtain ⟨W, hW⟩ := Int.eq_ofNat_of_zero_le (show 0 ≤ 1 + w by omega)
  have hN : N ≤ 400 := by omega
  have eN : ((N : Int)).toNat = N := by omega
  -- versions = [first + gap * k for k in range(many)]
  refine ⟨_, rfl, _, rfl, by omega, by omega, fun LV nV => ?_⟩
  rw [eN]
  refine lc_mapR (lo := 0) (n := N) (ys := (vsL a (1 + g) N).map V.int) (by rw [List.length_map, vsL_length]) (by omega) (fun i y acc R hi hy r => ?_) ?_ mono_yes mono_gName
  · rw [List.getElem?_map, vsL_get hi] at hy
    cases Option.some.inj hy
    refine ⟨rfl, ⟨_, rfl, _, rfl, _, rfl, _, _, rfl, rfl, .inl ⟨by omega, by omega⟩, _, _, rfl, rfl, ?_⟩⟩
    rw [Int.zero_add]
    exact r
  -- links = [(versions[k], versions[k - width]) for k in range(width, many)]
  have d5 : Dk c D ns (t + 4) (upd H4 LV (.lst ((vsL a (1 + g) N).map V.int))) := d4.upd (d4.neC nV) (d4.neD nV)
  have k5 : Kp D H (upd H4 LV (.lst ((vsL a (1 + g) N).map V.int))) := k4.trans (.new nV)
  show t_l_long_shape_links K _ [some (.ref D), some (.int most), some (.int a), some (.int (1 + g)), some (.int (1 + w)), some (.int (N : Int)), some (.ref LV), none, none] (upd H4 LV (.lst ((vsL a (1 + g) N).map V.int)))
  rw [hW]
  generalize hH5 : upd H4 LV (.lst ((vsL a (1 + g) N).map V.int)) = H5 at *
  have hV5 : H5 LV = some (.lst ((vsL a (1 + g) N).map V.int)) := by rw [← hH5]; exact updS
  refine ⟨_, rfl, _, rfl, _, _, rfl, ⟨by omega, by omega, by omega, by omega⟩, fun LL nL => ?_⟩
  have nVL : LV ≠ LL := ne_of_none hV5 nL
  have eNW : ((N : Int) - (W : Int)).toNat = N - W := by omega
  rw [eNW]
  refine lc_range (lo := (W : Int)) (n := N - W) (fun i H' => ∃ rs : List Addr, Kp D H5 H' ∧ Dk c D ns (t + 4) H' ∧ H' LV = some (.lst ((vsL a (1 + g) N).map V.int)) ∧ H' LL = some (.lst (rs.map V.ref)) ∧ LkAt H' rs ((lsL a (1 + g) W N).take i)) ?_ ?_ ?_
  · exact ⟨[], .new nL, d5.upd (d5.neC nL) (d5.neD nL), updN nVL hV5, updS, rfl, fun i b l h1 _ => by cases h1⟩
  · rintro i H6 hi ⟨rs, k6, d6, hV6, hL6, pr⟩
    have e1 : ((W : Int) + (i : Int)) = ((W + i : Nat) : Int) := by omega
    have e2 : ((W : Int) + (i : Int)) - (W : Int) = ((i : Nat) : Int) := by omega
    have g1 : atI ((vsL a (1 + g) N).map V.int) ((W : Int) + (i : Int)) = some (.int (a + (1 + g) * ((W : Int) + (i : Int)))) := by
      rw [e1]
      exact atI_nat (by rw [List.getElem?_map, vsL_get (by omega)]; rfl)
    have g2 : atI ((vsL a (1 + g) N).map V.int) ((W : Int) + (i : Int) - (W : Int)) = some (.int (a + (1 + g) * (i : Int))) := by
      rw [e2]
      exact atI_nat (by rw [List.getElem?_map, vsL_get (by omega)]; rfl)
    refine ⟨rfl, ⟨_, rfl, _, rfl, ixL hV6 g1 ⟨_, rfl, _, rfl, _, rfl, _, _, rfl, rfl, ixL hV6 g2 ⟨by show (2 : Nat) ≤ sizeLine; decide, fun T nT => ?_⟩⟩⟩⟩
    have nTL : T ≠ LL := (ne_of_none hL6 nT).symm
    have nTV : T ≠ LV := (ne_of_none hV6 nT).symm
    have hlen : rs.length ≤ 400 := by
      rw [pr.1, List.length_take, lsL_length]
      omega
    have ll : (lsL a (1 + g) W N)[i]? = some (a + (1 + g) * ((W : Int) + (i : Int)), a + (1 + g) * (i : Int)) := by
      simp [lsL, hi]
    have nLD : LL ≠ D := d5.neD nL
    have nLC : LL ≠ c := d5.neC nL
    refine ⟨rs.map V.ref, updN nTL.symm hL6, ?_, rs ++ [T], ?_, ?_, ?_, ?_, ?_⟩
    · rw [List.length_map]
      exact Nat.lt_of_le_of_lt (show rs.length ≤ 1000 by omega) (by decide)
    · exact fun b o e n => updN (ne_of_none e nL) (updN (ne_of_none (k6 b o e n) nT) (k6 b o e n))
    · exact (d6.upd (d6.neC nT) (d6.neD nT)).upd nLC nLD
    · exact updN nVL (updN nTV.symm hV6)
    · rw [updS, List.map_append]
      rfl
    · rw [take_snoc ll]
      refine (LkAt.snoc (pr.mono fun b xs h => updN (ne_of_none h nT) h) (l := (a + (1 + g) * ((W : Int) + (i : Int)), a + (1 + g) * (i : Int))) (T := T) updS).mono fun b xs h => updN (fun e => ?_) h
      rw [e, updN nTL.symm hL6] at h
      cases h
  · rintro H6 ⟨rs, k6, d6, hV6, hL6, pr⟩
    rw [List.take_of_length_le (by rw [lsL_length]; omega)] at pr
    refine ⟨_, rfl, LV, _, rfl, .inl ⟨sqL hV6, fun q nq => ?_⟩⟩
    have nqL : q ≠ LL := (ne_of_none hL6 nq).symm
    refine ⟨_, rfl, LL, _, rfl, .inl ⟨sqL (updN nqL.symm hL6), fun r nr => ?_⟩⟩
    have nqr : q ≠ r := fun e => by rw [← e, updS] at nr; cases nr
    have nr6 : H6 r = none := by rw [upd_ne nqr.symm] at nr; exact nr
    refine ⟨_, rfl, by show (3 : Nat) ≤ sizeLine; decide, fun p np => ?_⟩
    have npq : q ≠ p := fun e => by rw [← e, upd_ne nqr, updS] at np; cases np
    have npr : r ≠ p := fun e => by rw [← e, updS] at np; cases np
    have np6 : H6 p = none := by rw [upd_ne npr.symm, upd_ne npq.symm] at np; exact np
    have d7 : Dk c D ns (t + 4) (upd (upd (upd H6 q (.tup ((vsL a (1 + g) N).map V.int))) r (.tup (rs.map V.ref))) p (.tup [.ref q, .ref r, .int (W : Int)])) := ((d6.upd (d6.neC nq) (d6.neD nq)).upd (d6.neC nr6) (d6.neD nr6)).upd (d6.neC np6) (d6.neD np6)
    have up : ∀ b o, H6 b = some o → (upd (upd (upd H6 q (.tup ((vsL a (1 + g) N).map V.int))) r (.tup (rs.map V.ref))) p (.tup [.ref q, .ref r, .int (W : Int)])) b = some o := fun b o e => updN (ne_of_none e np6) (updN (ne_of_none e nr6) (updN (ne_of_none e nq) e))
    exact k p q r rs a (1 + g) W N _ (k5.trans (k6.trans fun b o e _ => up b o e)) d7 updS (updN npq (updN nqr updS)) (updN npr updS) (pr.mono fun b xs h => up _ _ h) a0 a1 (by omega) (by omega) (by omega) (by omega) (by omega)
end Fw

set_option Elab.async false
set_option linter.all false
set_option maxRecDepth 100000
set_option maxHeartbeats 4000000
namespace Fw
open PySem L2 RZ RT
/-! ### what is below -/
inductive Dn (ls : List (Int × Int)) : Int → Int → Prop where
  | refl (v : Int) : Dn ls v v
  | step {v p u : Int} (h : (v, p) ∈ ls) (r : Dn ls p u) : Dn ls v u
theorem Dn.trans {ls : List (Int × Int)} {a b c : Int} (h : Dn ls a b) (k : Dn ls b c) : Dn ls a c := by
  induction h with
  | refl v => exact k
  | step h r ih => exact .step h (ih k)
theorem Dn.le {vs : List Int} {ls : List (Int × Int)} (g : Good vs ls) {a b : Int} (h : Dn ls a b) : b ≤ a := by
  induction h with
  | refl v => exact Int.le_refl v
  | step h r ih =>
    have := (g.mem _ h).2.2
    simp only at this
    omega
theorem Dn.mem {vs : List Int} {ls : List (Int × Int)} (g : Good vs ls) {a b : Int} (h : Dn ls a b) : a ∈ vs → b ∈ vs := by
  induction h with
  | refl v => exact id
  | step h r ih => exact fun _ => ih (g.mem _ h).2.1
/-- one more, if it is not there -/
def ins1 (fs : List Int) (j : Int) : List Int := if fs.contains j then fs else fs ++ [j]
theorem mem_ins1 {fs : List Int} {j x : Int} : x ∈ ins1 fs j ↔ x ∈ fs ∨ x = j := by
  unfold ins1
  by_cases h : fs.contains j = true
  · rw [if_pos h]
    refine ⟨Or.inl, fun k => k.elim id fun e => ?_⟩
    rw [e]
    exact List.contains_iff_mem.mp h
  · rw [if_neg h, List.mem_append, List.mem_singleton]
theorem nodup_ins1 {fs : List Int} {j : Int} (h : fs.Nodup) : (ins1 fs j).Nodup := by
  unfold ins1
  by_cases hc : fs.contains j = true
  · rw [if_pos hc]
    exact h
  · rw [if_neg hc]
    refine List.nodup_append.mpr ⟨h, List.pairwise_singleton _ _, fun a ha b hb e => ?_⟩
    rw [e, List.mem_singleton.mp hb] at ha
    exact hc (List.contains_iff_mem.mpr ha)
theorem length_ins1 (fs : List Int) (j : Int) : (ins1 fs j).length ≤ fs.length + 1 := by
  unfold ins1
  split
  · omega
  · rw [List.length_append, List.length_singleton]
    omega
/-- behind one link -/
def addB (fs : List Int) (l : Int × Int) : List Int := if fs.contains l.1 then ins1 fs l.2 else fs
/-- the links gone through from the last one on -/
def lower (ls : List (Int × Int)) (ss : List Int) : List Int := ls.foldr (fun l fs => addB fs l) ss
theorem lower_cons (l : Int × Int) (ls : List (Int × Int)) (ss : List Int) : lower (l :: ls) ss = addB (lower ls ss) l := rfl
theorem nodup_lower {ls : List (Int × Int)} {ss : List Int} (h : ss.Nodup) : (lower ls ss).Nodup := by
  induction ls with
  | nil => exact h
  | cons l r ih =>
    rw [lower_cons]
    unfold addB
    split
    · exact nodup_ins1 ih
    · exact ih
theorem mem_addB {fs : List Int} {l : Int × Int} {x : Int} : x ∈ addB fs l ↔ x ∈ fs ∨ (l.1 ∈ fs ∧ x = l.2) := by
  unfold addB
  by_cases h : fs.contains l.1 = true
  · rw [if_pos h, mem_ins1]
    exact ⟨fun k => k.imp id fun e => ⟨List.contains_iff_mem.mp h, e⟩, fun k => k.imp id fun e => e.2⟩
  · rw [if_neg h]
    refine ⟨Or.inl, fun k => k.elim id fun e => absurd (List.contains_iff_mem.mpr e.1) h⟩
theorem lower_sub {ls : List (Int × Int)} {ss : List Int} {x : Int} (h : x ∈ ss) : x ∈ lower ls ss := by
  induction ls with
  | nil => exact h
  | cons l r ih => exact mem_addB.mpr (.inl ih)
theorem Dn.more {ls : List (Int × Int)} {l : Int × Int} {a b : Int} (h : Dn ls a b) : Dn (l :: ls) a b := by
  induction h with
  | refl v => exact .refl v
  | step h r ih => exact .step (List.mem_cons_of_mem _ h) ih
theorem Dn.snoc {ls : List (Int × Int)} {a b c : Int} (h : Dn ls a b) (k : (b, c) ∈ ls) : Dn ls a c := h.trans (.step k (.refl c))
theorem lower_dn {ls : List (Int × Int)} {ss : List Int} {x : Int} (h : x ∈ lower ls ss) : ∃ s ∈ ss, Dn ls s x := by
  induction ls generalizing x with
  | nil => exact ⟨x, h, .refl x⟩
  | cons l r ih =>
    rw [lower_cons] at h
    rcases mem_addB.mp h with h | ⟨h1, h2⟩
    · obtain ⟨s, hs, d⟩ := ih h
      exact ⟨s, hs, d.more⟩
    · obtain ⟨s, hs, d⟩ := ih h1
      rw [h2]
      exact ⟨s, hs, d.more.snoc (List.mem_cons_self ..)⟩
theorem lower_closed {ls : List (Int × Int)} {ss : List Int} (hx : ls.Pairwise lkLt) (hd : ∀ l ∈ ls, l.2 < l.1) : ∀ l ∈ ls, l.1 ∈ lower ls ss → l.2 ∈ lower ls ss := by
  induction ls with
  | nil => exact fun l h => nomatch h
  | cons m r ih =>
    intro l hl h1
    rw [lower_cons] at h1 ⊢
    have hx2 := List.pairwise_cons.mp hx
    have hd2 : ∀ l ∈ r, l.2 < l.1 := fun l hl => hd l (List.mem_cons_of_mem _ hl)
    -- the link m adds m.2 alone, and no link of r begins there
    have no : l ∈ r → l.1 ≠ m.2 := fun hr e => by
      have h3 := hd m (List.mem_cons_self ..)
      have h4 := hx2.1 l hr
      unfold lkLt at h4
      omega
    rcases List.mem_cons.mp hl with e | hr
    · subst e
      rcases mem_addB.mp h1 with h1 | ⟨h1, _⟩
      · exact mem_addB.mpr (.inr ⟨h1, rfl⟩)
      · exact mem_addB.mpr (.inr ⟨h1, rfl⟩)
    · rcases mem_addB.mp h1 with h1 | ⟨_, h1⟩
      · exact mem_addB.mpr (.inl (ih hx2.2 hd2 l hr h1))
      · exact absurd h1 (no hr)
theorem mem_lower {vs : List Int} {ls : List (Int × Int)} (g : Good vs ls) {ss : List Int} {x : Int} : x ∈ lower ls ss ↔ ∃ s ∈ ss, Dn ls s x := by
  refine ⟨lower_dn, fun ⟨s, hs, d⟩ => ?_⟩
  have cl := lower_closed (ss := ss) g.lex fun l hl => (g.mem l hl).2.2
  have key : ∀ s x, Dn ls s x → s ∈ lower ls ss → x ∈ lower ls ss := fun s x d => by
    induction d with
    | refl v => exact id
    | step h r ih => exact fun k => ih (cl _ h k)
  exact key s x d (lower_sub hs)
theorem lower_in {vs : List Int} {ls : List (Int × Int)} (g : Good vs ls) {ss : List Int} (hs : ∀ s ∈ ss, s ∈ vs) : ∀ x ∈ lower ls ss, x ∈ vs := fun x hx => by
  obtain ⟨s, h, d⟩ := lower_dn hx
  exact d.mem g (hs s h)
/-- rising lists with the same things are the same -/
theorem rising_ext : ∀ {l m : List Int}, l.Pairwise (· < ·) → m.Pairwise (· < ·) → (∀ x, x ∈ l ↔ x ∈ m) → l = m
  | [], [], _, _, _ => rfl
  | [], b :: m, _, _, h => by
    have := (h b).mpr (List.mem_cons_self ..)
    cases this
  | a :: l, [], _, _, h => by
    have := (h a).mp (List.mem_cons_self ..)
    cases this
  | a :: l, b :: m, hl, hm, h => by
    obtain ⟨l1, l2⟩ := List.pairwise_cons.mp hl
    obtain ⟨m1, m2⟩ := List.pairwise_cons.mp hm
    have e : a = b := by
      rcases List.mem_cons.mp ((h a).mp (List.mem_cons_self ..)) with e | e
      · exact e
      · rcases List.mem_cons.mp ((h b).mpr (List.mem_cons_self ..)) with e2 | e2
        · exact e2.symm
        · have h1 := m1 a e
          have h2 := l1 b e2
          omega
    subst e
    have r : l = m := rising_ext l2 m2 fun x => by
      refine ⟨fun hx => ?_, fun hx => ?_⟩
      · rcases List.mem_cons.mp ((h x).mp (List.mem_cons_of_mem _ hx)) with e | e
        · have := l1 x hx
          omega
        · exact e
      · rcases List.mem_cons.mp ((h x).mpr (List.mem_cons_of_mem _ hx)) with e | e
        · have := m1 x hx
          omega
        · exact e
    rw [r]
theorem rising_nodup {l : List Int} (h : l.Pairwise (· < ·)) : l.Nodup := h.imp fun {a b} k e => by omega
theorem rising_of {l : List Int} (h : l.Pairwise (· ≤ ·)) (n : l.Nodup) : l.Pairwise (· < ·) := by
  refine (h.and n).imp fun {a b} k => ?_
  have := k.1
  have := k.2
  omega
/-- sorted is what of the versions is in it -/
theorem sorted_is {vs fs ys : List Int} (hv : vs.Pairwise (· < ·)) (hf : fs.Nodup) (hin : ∀ x ∈ fs, x ∈ vs) (hp : ys.Perm fs) (hs : ys.Pairwise (· ≤ ·)) : ys = vs.filter fun u => fs.contains u := by
  refine rising_ext (rising_of hs (hp.nodup_iff.mpr hf)) (hv.filter _) fun x => ?_
  rw [hp.mem_iff, List.mem_filter, List.contains_iff_mem]
  exact ⟨fun h => ⟨hin x h, h⟩, fun h => h.2⟩
/-- a version and all that are below it, rising -/
def belowL (vs : List Int) (ls : List (Int × Int)) (v : Int) : List Int := vs.filter fun u => (lower ls [v]).contains u
theorem mem_belowL {vs : List Int} {ls : List (Int × Int)} (g : Good vs ls) {v u : Int} (hv : v ∈ vs) : u ∈ belowL vs ls v ↔ Dn ls v u := by
  unfold belowL
  rw [List.mem_filter, List.contains_iff_mem, mem_lower g]
  refine ⟨fun h => ?_, fun h => ⟨h.mem g hv, v, List.mem_singleton.mpr rfl, h⟩⟩
  obtain ⟨_, s, hs, d⟩ := h
  rw [List.mem_singleton.mp hs] at d
  exact d
theorem belowL_rising {vs : List Int} {ls : List (Int × Int)} (g : Good vs ls) (v : Int) : (belowL vs ls v).Pairwise (· < ·) := g.inc.filter _
theorem belowL_length {vs : List Int} {ls : List (Int × Int)} (v : Int) : (belowL vs ls v).length ≤ vs.length := List.length_filter_le _ _
/-! ### sets as dicts, in order -/
def mkS (fs : List Int) : List (Key × V) := fs.map fun i => ((Sum.inl i : Key), V.bl true)
theorem mkS_length (fs : List Int) : (mkS fs).length = fs.length := by simp [mkS]
theorem mkS_keys (fs : List Int) : (mkS fs).map (·.1) = fs.map Sum.inl := by simp [mkS]
theorem mkS_val (j : Int) : ∀ fs : List Int, valV (mkS fs) (.inl j) = if fs.contains j then some (.bl true) else none
  | [] => rfl
  | i :: r => by
    show valV ((Sum.inl i, V.bl true) :: mkS r) (.inl j) = _
    by_cases e : i = j
    · subst e
      rw [valV_pos (p := ((Sum.inl i : Key), V.bl true)) rfl, if_pos (by simp)]
    · rw [valV_neg (p := ((Sum.inl i : Key), V.bl true)) (fun z => e (Sum.inl.inj z)), mkS_val j r, List.contains_cons, show (j == i) = false from beq_eq_false_iff_ne.mpr fun z => e z.symm, Bool.false_or]
theorem mkS_has (fs : List Int) (j : Int) : (valV (mkS fs) (.inl j)).isSome = fs.contains j := by
  rw [mkS_val]
  cases fs.contains j <;> rfl
theorem mkS_put (fs : List Int) (j : Int) : putK (mkS fs) (.inl j) (.bl true) = mkS (ins1 fs j) := by
  unfold ins1
  by_cases h : fs.contains j = true
  · rw [if_pos h]
    unfold putK
    rw [valV_any, mkS_has, if_pos h]
    unfold mkS
    rw [List.map_map]
    refine List.map_congr_left fun i _ => ?_
    show (if (Sum.inl i : Key) = Sum.inl j then ((Sum.inl i : Key), V.bl true) else _) = _
    split <;> rfl
  · rw [if_neg h, putK_new (V.bl true) (by rw [mkS_val, if_neg h])]
    unfold mkS
    rw [List.map_append]
    rfl
theorem mkS_ins {fs : List Int} {j : Int} (h : j ∉ fs) : ins1 fs j = fs ++ [j] := by
  unfold ins1
  rw [if_neg fun z => h (List.contains_iff_mem.mp z)]
/-! ### a dict comprehension over a list -/
theorem dc_list {K : PySem.W.Frag} {a : Addr} {xs : List V} {g : TG} {tt : TT} {tk tv : TE} {vs : List Nat} {σ : L2.St} {H1 : Hp} {D : Addr} {Qd : Hp → Prop} (Pv : Nat → Hp → Prop) (h0 : Pv 0 (upd H1 D (.dK []))) (hl : ∀ i H, i ≤ xs.length → Pv i H → SqL K H a xs)
    (hs : ∀ i x H, xs[i]? = some x → Pv i H → g x (wipe σ vs) H fun σ2 H2 => wipe σ2 vs = wipe σ vs ∧ tt σ2 H2 fun b H3 =>
      if b = true then tk σ2 H3 fun y H4 => tv σ2 H4 fun z H5 => ∃ kvs k, y = kV k ∧ H5 D = some (.dK kvs) ∧ kvs.length < sizeLine ∧ Pv (i + 1) (upd H5 D (.dK (putK kvs k z))) else Pv (i + 1) H3) (hd : ∀ H, Pv xs.length H → Qd H) :
    ∃ W : Nat → Nat → Hp → Prop, (∃ m, W 0 m (upd H1 D (.dK []))) ∧ ∀ i m H, W i m H →
      ((Itl K a).stop i H ∧ Qd H) ∨ ((Itl K a).go i H ∧ ∃ Nx : Hp → Prop, (∀ H', Nx H' → ∃ m', m' < m ∧ W (i + 1) m' H') ∧ ∀ x H', (Itl K a).yld i H x H' → g x (wipe σ vs) H' fun σ2 H2 => wipe σ2 vs = wipe σ vs ∧ tt σ2 H2 fun b H3 =>
        if b = true then tk σ2 H3 fun y H4 => tv σ2 H4 fun z H5 => ∃ kvs k, y = kV k ∧ H5 D = some (.dK kvs) ∧ kvs.length < sizeLine ∧ Nx (upd H5 D (.dK (putK kvs k z))) else Nx H3) := by
  refine ⟨fun i m H => m = xs.length - i ∧ i ≤ xs.length ∧ Pv i H, ⟨xs.length, by simp, Nat.zero_le _, h0⟩, ?_⟩
  rintro i m H ⟨rfl, hi, p⟩
  have q := hl i H hi p
  by_cases hlt : i < xs.length
  · refine .inr ⟨⟨xs, xs[i], q, by simp [hlt]⟩, Pv (i + 1), fun H' p' => ⟨xs.length - (i + 1), by omega, rfl, hlt, p'⟩, fun x H' y => ?_⟩
    obtain ⟨e, y⟩ := y
    subst e
    exact hs i x _ (y xs q) p
  · have e : i = xs.length := by omega
    subst e
    exact .inl ⟨⟨xs, q, Nat.le_refl _⟩, hd H p⟩
end Fw

set_option Elab.async false
set_option linter.all false
set_option maxRecDepth 100000
set_option maxHeartbeats 4000000
namespace Fw
open PySem L2 RZ RT
/-! ### with_lower -/
def sp_with_lower (_ : PySem.W.Frag) : Sp := fun vs H Q _ => ∃ (p q : Addr) (ws : List Int) (ls : List (Int × Int)) (ss : List Int), vs = [.ref p, .ref q] ∧ ShapeAt H p ws ls ∧ Good ws ls ∧ ls.length ≤ 10000 ∧ H q = some (.lst (ss.map V.int)) ∧ ss.Nodup ∧ ss.length ≤ 1000 ∧
  ∀ (F : Addr) (H' : Hp), Same H H' → H F = none → H' F = some (.dK (mkS (lower ls ss))) → Q (.ref F) H'
abbrev N_with_lower : List Str := ["shape", "starts", "found", "version", "upper", "lower"]
def t_with_lower (K : PySem.W.Frag) : TS := (tSeq (tAsg (tDc (iList K (tVar 1)) (gName 3) tYes (tVar 3) (tC (.bl true)) [3]) (gName 2))
    (tSeq (tFor (iRevA K (tOp (rIx K) (tVar 0) (tC (.int 1)))) (gTup K 2 (gCons (gName 4) (gCons (gName 5) gNil))) (tIfS (tB (tDIn (tVar 4) (tVar 2))) (sDPut (tVar 2) (tVar 5) (tC (.bl true))) tNext))
    (tRet (tVar 2))))
theorem len_with_lower {K : PySem.W.Frag} {vs : List V} {H : Hp} {Q : VK} {E : XK} (h : sp_with_lower K vs H Q E) : vs.length = 2 := by
  obtain ⟨_, _, _, _, _, rfl, _⟩ := h
  rfl
theorem length_lower (ls : List (Int × Int)) (ss : List Int) : (lower ls ss).length ≤ ss.length + ls.length := by
  induction ls with
  | nil => exact Nat.le_refl _
  | cons l r ih =>
    rw [lower_cons]
    unfold addB
    split
    · have := length_ins1 (lower r ss) l.2
      rw [List.length_cons]
      omega
    · rw [List.length_cons]
      omega
theorem drop_rev {α : Type} {l : List α} {i : Nat} {x : α} (hi : i < l.length) (h : l[l.length - 1 - i]? = some x) : l.drop (l.length - (i + 1)) = x :: l.drop (l.length - i) := by
  have e1 : l.length - (i + 1) = l.length - 1 - i := by omega
  obtain ⟨h1, h2⟩ := List.getElem?_eq_some_iff.mp h
  rw [e1, List.drop_eq_getElem_cons h1, h2, show l.length - 1 - i + 1 = l.length - i by omega]
theorem pure_with_lower {K : PySem.W.Frag} {vs : List V} {H : Hp} {Q : VK} {E : XK} (h : sp_with_lower K vs H Q E) : t_with_lower K { nx := fun _ H' => Q .non H', rt := Q } (start N_with_lower vs) H := by
  obtain ⟨p, q, ws, ls, ss, rfl, ⟨a, r, rs, hp, ha, hr, lk⟩, g, hlz, hq, nd, hsz, k⟩ := h
  refine ⟨_, rfl, q, rfl, ⟨_, sqL hq⟩, fun F nF => ?_⟩
  have up : ∀ kvs, Same H (upd H F (.dK kvs)) := fun kvs b o e => updN (ne_of_none e nF) e
  refine dc_list (K := K) (a := q) (xs := ss.map V.int) (fun i H2 => H2 = upd H F (.dK (mkS (ss.take i)))) (by rw [List.take_zero]; rfl) (fun i H2 _ e => by rw [e]; exact sqL (up _ _ _ hq)) (fun i x H2 hx e => ?_) (fun H2 e => ?_)
  · subst e
    rw [List.getElem?_map] at hx
    cases en : ss[i]? with
    | none => rw [en] at hx; cases hx
    | some n =>
      rw [en] at hx
      cases Option.some.inj hx
      refine ⟨rfl, ⟨_, rfl, mkS (ss.take i), Sum.inl n, rfl, updS, ?_, ?_⟩⟩
      · rw [mkS_length]
        exact Nat.lt_of_le_of_lt (by rw [List.length_take]; omega : (ss.take i).length ≤ 1000) (by decide)
      · have nin : n ∉ ss.take i := fun hm => by
          obtain ⟨j, hj, e⟩ := List.getElem_of_mem hm
          rw [List.length_take] at hj
          rw [List.getElem_take] at e
          have hi := (List.getElem?_eq_some_iff.mp en)
          have : j = i := (List.getElem_inj nd).mp (e.trans hi.2.symm)
          omega
        rw [upd_upd, take_snoc en, mkS_put, mkS_ins nin]
  · subst e
    rw [List.length_map, List.take_length]
    have hrl : (rs.map V.ref).length = ls.length := by rw [List.length_map, lk.1]
    -- for upper, lower in reversed(shape[1])
    refine ⟨_, rfl, ixT (up _ _ _ hp) rfl ⟨r, rs.map V.ref, rfl, .inr ⟨sqT (up _ _ _ hr), ?_⟩⟩⟩
    refine for_ItvT (K := K) (a := r) (xs := rs.map V.ref) (fun i σ H2 => ∃ z3 z4 z5 : Option V, σ = [some (.ref p), some (.ref q), some (.ref F), z3, z4, z5] ∧ H2 = upd H F (.dK (mkS (lower (ls.drop (ls.length - i)) ss)))) ?_ ?_ ?_ ?_
    · refine ⟨none, none, none, rfl, ?_⟩
      rw [Nat.sub_zero, List.drop_length]
      rfl
    · rintro i σ H2 ⟨_, _, _, _, rfl⟩
      exact sqT (up _ _ _ hr)
    · rintro i x σ H2 hi hx ⟨z3, z4, z5, rfl, rfl⟩
      rw [hrl] at hi hx
      rw [List.getElem?_map] at hx
      have hj : ls.length - 1 - i < ls.length := by omega
      cases er : rs[ls.length - 1 - i]? with
      | none => rw [er] at hx; cases hx
      | some b =>
        rw [er] at hx
        cases Option.some.inj hx
        have el : ls[ls.length - 1 - i]? = some ls[ls.length - 1 - i] := List.getElem?_eq_getElem hj
        generalize ls[ls.length - 1 - i] = l at el
        have hb := lk.2 _ _ _ er el
        have ed := drop_rev hi el
        refine ⟨b, [.int l.1, .int l.2], rfl, sqT (up _ _ _ hb), rfl, _, [.int l.2], rfl, _, [], rfl, rfl, ?_⟩
        have hlen : (mkS (lower (ls.drop (ls.length - i)) ss)).length < sizeLine := by
          rw [mkS_length]
          have := length_lower (ls.drop (ls.length - i)) ss
          rw [List.length_drop] at this
          exact Nat.lt_of_le_of_lt (show _ ≤ 20000 by omega) (by decide)
        refine ⟨_, rfl, _, rfl, F, _, rfl, DGet.k (k := Sum.inl l.1) updS, _, rfl, ?_⟩
        rw [mkS_has]
        refine ite2 (fun e => ?_) (fun e => ?_)
        · refine ⟨_, rfl, _, rfl, F, _, rfl, DPut.k (k := Sum.inl l.2) updS hlen, _, _, _, rfl, ?_⟩
          rw [upd_upd, mkS_put, ed, lower_cons]
          unfold addB
          rw [if_pos e]
        · refine ⟨_, _, _, rfl, ?_⟩
          rw [ed, lower_cons]
          unfold addB
          rw [if_neg e]
    · rintro σ H2 ⟨z3, z4, z5, rfl, rfl⟩
      rw [hrl, Nat.sub_self, List.drop_zero]
      exact ⟨_, rfl, k F _ (up _) nF updS⟩
/-! ### rows: for each version what is below it -/
def rowsKV (ws : List Int) (as : List Addr) : List (Key × V) := List.zipWith (fun v a => ((Sum.inl v : Key), V.ref a)) ws as
def RowsAt (H : Hp) (R : Addr) (ws : List Int) (ls : List (Int × Int)) (done : List Int) (as : List Addr) : Prop := as.length = done.length ∧ H R = some (.dK (rowsKV done as)) ∧ ∀ (i : Nat) (v : Int) (a : Addr), done[i]? = some v → as[i]? = some a → H a = some (.lst ((belowL ws ls v).map V.int))
theorem rows_val {v : Int} {a : Addr} : ∀ {ws : List Int} {as : List Addr} {i : Nat}, ws.Nodup → ws[i]? = some v → as[i]? = some a → valV (rowsKV ws as) (.inl v) = some (.ref a)
  | [], _, _, _, h, _ => by simp at h
  | _ :: _, [], _, _, _, h => by simp at h
  | w :: ws, b :: as, 0, nd, h1, h2 => by
    cases Option.some.inj h1
    cases Option.some.inj h2
    exact valV_pos (p := ((Sum.inl v : Key), V.ref a)) rfl
  | w :: ws, b :: as, i + 1, nd, h1, h2 => by
    have n2 := List.nodup_cons.mp nd
    have h1' : ws[i]? = some v := h1
    have ne : ¬ (Sum.inl w : Key) = Sum.inl v := fun e => n2.1 (by rw [Sum.inl.inj e]; exact List.mem_of_getElem? h1')
    show valV ((Sum.inl w, V.ref b) :: rowsKV ws as) (.inl v) = _
    rw [valV_neg (p := ((Sum.inl w : Key), V.ref b)) ne]
    exact rows_val n2.2 h1' h2
theorem rows_none {v : Int} : ∀ {ws : List Int} {as : List Addr}, v ∉ ws → valV (rowsKV ws as) (.inl v) = none
  | [], _, _ => rfl
  | _ :: _, [], _ => rfl
  | w :: ws, b :: as, h => by
    show valV ((Sum.inl w, V.ref b) :: rowsKV ws as) (.inl v) = _
    rw [valV_neg (p := ((Sum.inl w : Key), V.ref b)) fun e => h (by rw [Sum.inl.inj e]; exact List.mem_cons_self ..)]
    exact rows_none fun hm => h (List.mem_cons_of_mem _ hm)
theorem rowsKV_length {ws : List Int} {as : List Addr} (h : as.length = ws.length) : (rowsKV ws as).length = ws.length := by
  unfold rowsKV
  rw [List.length_zipWith, h, Nat.min_self]
theorem rowsKV_snoc {ws : List Int} {as : List Addr} {v : Int} {a : Addr} (h : as.length = ws.length) : rowsKV (ws ++ [v]) (as ++ [a]) = rowsKV ws as ++ [((Sum.inl v : Key), V.ref a)] := by
  unfold rowsKV
  rw [List.zipWith_append h.symm]
  rfl
def sp_l_spans (_ : PySem.W.Frag) : Sp := fun vs H Q _ => ∃ (p : Addr) (ws : List Int) (ls : List (Int × Int)), vs = [.ref p] ∧ ShapeAt H p ws ls ∧ Good ws ls ∧ ws.length ≤ 60 ∧ ls.length ≤ 10000 ∧
  ∀ (R : Addr) (as : List Addr) (H' : Hp), Same H H' → H R = none → RowsAt H' R ws ls ws as → (∀ a ∈ as, H a = none) → Q (.ref R) H'
theorem len_l_spans {K : PySem.W.Frag} {vs : List V} {H : Hp} {Q : VK} {E : XK} (h : sp_l_spans K vs H Q E) : vs.length = 1 := by
  obtain ⟨_, _, _, rfl, _⟩ := h
  rfl
def fSortD : List V → Hp → VK → Prop := fun xs H Q => ∃ (a : Addr) (kvs : List (Key × V)) (ks : List Int), xs = [.ref a] ∧ Rd H a (.dK kvs) ∧ kvs.map (·.1) = ks.map Sum.inl ∧ ks.length < 64 ∧ ∀ (ys : List Int) (p : Addr), ys.Perm ks → ys.Pairwise (· ≤ ·) → H p = none → Q (.ref p) (upd H p (.lst (ys.map V.int)))
abbrev N_l_spans : List Str := ["_law_web", "_law_rows", "_law_version", "_law_found", "_law_two", "_law_low"]
def t_l_spans (K : PySem.W.Frag) : TS := (tSeq (tAsg tDNewK (gName 1))
    (tSeq (tFor (iTup K (tOp (rIx K) (tVar 0) (tC (.int 0)))) (gName 2) (tSeq (tAsg (tDisp (((tVar 2), (tC (.bl true))) :: [])) (gName 3))
    (tSeq (tFor (iTup K (tOp (rIx K) (tVar 0) (tC (.int 1)))) (gName 4) (tIfS (tTest (tOp rEq (tOp (rIx K) (tVar 4) (tC (.int 0))) (tVar 2))) (tFor (iList K (tDGet (tVar 1) (tOp (rIx K) (tVar 4) (tC (.int 1))))) (gName 5) (sDPut (tVar 3) (tVar 5) (tC (.bl true)))) tNext))
    (sDPut (tVar 1) (tVar 2) (tCB fSortD (tCons (tVar 3) tNil))))))
    (tRet (tVar 1))))
def insAll (fs ns : List Int) : List Int := ns.foldl ins1 fs
theorem insAll_snoc (fs ns : List Int) (n : Int) : insAll fs (ns ++ [n]) = ins1 (insAll fs ns) n := by
  unfold insAll
  rw [List.foldl_append]
  rfl
theorem mem_insAll {x : Int} : ∀ {ns fs : List Int}, x ∈ insAll fs ns ↔ x ∈ fs ∨ x ∈ ns
  | [], fs => ⟨Or.inl, fun h => h.elim id fun z => nomatch z⟩
  | n :: r, fs => by
    show x ∈ insAll (ins1 fs n) r ↔ _
    rw [mem_insAll, mem_ins1, List.mem_cons, or_assoc]
theorem nodup_insAll : ∀ {ns fs : List Int}, fs.Nodup → (insAll fs ns).Nodup
  | [], _, h => h
  | n :: r, fs, h => nodup_insAll (ns := r) (fs := ins1 fs n) (nodup_ins1 h)
theorem length_sub : ∀ {fs vs : List Int}, fs.Nodup → (∀ x ∈ fs, x ∈ vs) → fs.length ≤ vs.length
  | [], _, _, _ => Nat.zero_le _
  | x :: r, vs, nd, h => by
    obtain ⟨n1, n2⟩ := List.nodup_cons.mp nd
    have hx := h x (List.mem_cons_self ..)
    have := length_sub (vs := vs.erase x) n2 fun y hy => (List.mem_erase_of_ne fun e => n1 (by rw [← e]; exact hy)).mpr (h y (List.mem_cons_of_mem _ hy))
    rw [List.length_erase_of_mem hx] at this
    have := List.length_pos_of_mem hx
    rw [List.length_cons]
    omega
/-- what is found for v behind the first j links -/
def Fnd (ls : List (Int × Int)) (v : Int) (j : Nat) (fs : List Int) : Prop := fs.Nodup ∧ ∀ x, x ∈ fs ↔ x = v ∨ ∃ l ∈ ls.take j, l.1 = v ∧ Dn ls l.2 x
theorem Fnd.all {ls : List (Int × Int)} {v : Int} {fs : List Int} (h : Fnd ls v ls.length fs) (x : Int) : x ∈ fs ↔ Dn ls v x := by
  rw [h.2, List.take_length]
  refine ⟨fun k => ?_, fun k => ?_⟩
  · rcases k with rfl | ⟨l, hl, rfl, d⟩
    · exact .refl _
    · exact .step hl d
  · cases k with
    | refl => exact .inl rfl
    | step hl d => exact .inr ⟨_, hl, rfl, d⟩
theorem pure_l_spans {K : PySem.W.Frag} {vs : List V} {H : Hp} {Q : VK} {E : XK} (h : sp_l_spans K vs H Q E) : t_l_spans K { nx := fun _ H' => Q .non H', rt := Q } (start N_l_spans vs) H := by
  obtain ⟨p, ws, ls, rfl, ⟨q, r, rs, hp, hq, hr, lk⟩, g, hw, hlz, k⟩ := h
  refine fun R nR => ?_
  have upR : Same H (upd H R (.dK [])) := fun b o e => updN (ne_of_none e nR) e
  refine ⟨_, rfl, ixT (upR _ _ hp) rfl ⟨q, rfl, ⟨_, sqT (upR _ _ hq)⟩, ?_⟩⟩
  refine for_tup (K := K) (a := q) (xs := ws.map V.int) (fun i σ H' => ∃ (as : List Addr) (z2 z3 z4 z5 : Option V), σ = [some (.ref p), some (.ref R), z2, z3, z4, z5] ∧ (Same H H' ∧ ∀ a ∈ as, H a = none) ∧ RowsAt H' R ws ls (ws.take i) as) ?_ ?_ ?_ ?_
  · refine ⟨[], none, none, none, none, rfl, ⟨upR, fun a ha => nomatch ha⟩, rfl, ?_, fun i v a h1 _ => by rw [List.take_zero] at h1; cases h1⟩
    rw [List.take_zero]
    exact updS
  · rintro i σ H' _ ⟨_, _, _, _, _, _, ⟨s, _⟩, _⟩
    exact sqT (s _ _ hq)
  · rintro i x σ H1 hx ⟨as, z2, z3, z4, z5, rfl, ⟨s1, hfree⟩, hal, hR, hrow⟩
    rw [List.getElem?_map] at hx
    cases ev : ws[i]? with
    | none => rw [ev] at hx; cases hx
    | some v =>
      rw [ev] at hx
      cases Option.some.inj hx
      have hvm : v ∈ ws := List.mem_of_getElem? ev
      have hi : i < ws.length := (List.getElem?_eq_some_iff.mp ev).1
      have htl : (ws.take i).length = i := by rw [List.length_take]; omega
      -- found = {version: True}
      refine fun F nF => ⟨_, rfl, updS, [(Sum.inl v, .bl true)], rfl, (by show (1 : Nat) ≤ 15; decide), ?_⟩
      rw [upd_upd]
      have e0 : mergeK [] [((Sum.inl v : Key), V.bl true)] = mkS [v] := rfl
      rw [e0]
      have sF : ∀ kvs, Same H1 (upd H1 F (.dK kvs)) := fun kvs b o e => updN (ne_of_none e nF) e
      have nRF : R ≠ F := ne_of_none hR nF
      -- for two in web[1]
      refine ⟨_, rfl, ixT (sF _ _ _ (s1 _ _ hp)) rfl ⟨r, rfl, ⟨_, sqT (sF _ _ _ (s1 _ _ hr))⟩, ?_⟩⟩
      refine for_tup (K := K) (a := r) (xs := rs.map V.ref) (fun j σ H' => ∃ (fs : List Int) (z4 z5 : Option V), σ = [some (.ref p), some (.ref R), some (.int v), some (.ref F), z4, z5] ∧ H' = upd H1 F (.dK (mkS fs)) ∧ Fnd ls v j fs) ?_ ?_ ?_ ?_
      · refine ⟨[v], z4, z5, rfl, rfl, List.pairwise_singleton _ _, fun x => ?_⟩
        rw [List.mem_singleton, List.take_zero]
        exact ⟨Or.inl, fun h => h.elim id fun ⟨l, hl, _⟩ => nomatch hl⟩
      · rintro j σ H' _ ⟨_, _, _, _, rfl, _⟩
        exact sqT (sF _ _ _ (s1 _ _ hr))
      · rintro j x σ H' hxj ⟨fs, z4, z5, rfl, rfl, fd⟩
        rw [List.getElem?_map] at hxj
        cases er : rs[j]? with
        | none => rw [er] at hxj; cases hxj
        | some b =>
          rw [er] at hxj
          cases Option.some.inj hxj
          have hj : j < ls.length := by rw [← lk.1]; exact (List.getElem?_eq_some_iff.mp er).1
          have el : ls[j]? = some ls[j] := List.getElem?_eq_getElem hj
          generalize ls[j] = l at el
          have hb : upd H1 F (.dK (mkS fs)) b = some (.tup [.int l.1, .int l.2]) := sF _ _ _ (s1 _ _ (lk.2 j b l er el))
          have hlm : l ∈ ls := List.mem_of_getElem? el
          obtain ⟨m1, m2, m3⟩ := g.mem l hlm
          have tk : ls.take (j + 1) = ls.take j ++ [l] := take_snoc el
          refine ⟨_, rfl, ixT hb rfl ⟨_, rfl, rfl, _, rfl, ite2 (fun e => ?_) (fun e => ?_)⟩⟩
          · have e1 : l.1 = v := V.int.inj (of_decide_eq_true e)
            -- for low in rows[two[1]]
            obtain ⟨m, hm, em⟩ := List.getElem_of_mem m2
            have em2 : ws[m]? = some l.2 := List.getElem?_eq_some_iff.mpr ⟨hm, em⟩
            have hmi : m < i := by
              have h1 := List.getElem?_eq_some_iff.mp ev
              have : ¬ i ≤ m := fun hle => by
                rcases Nat.lt_or_eq_of_le hle with hlt | heq
                · have := List.pairwise_iff_getElem.mp g.inc i m h1.1 hm hlt
                  rw [h1.2, em] at this
                  omega
                · subst heq
                  rw [em2] at ev
                  have := Option.some.inj ev
                  omega
              omega
            have em3 : (ws.take i)[m]? = some l.2 := by rw [List.getElem?_take_of_lt hmi]; exact em2
            have hma : m < as.length := by rw [hal, htl]; exact hmi
            have ea : as[m]? = some as[m] := List.getElem?_eq_getElem hma
            have rv : valV (rowsKV (ws.take i) as) (.inl l.2) = some (.ref as[m]) := rows_val ((rising_nodup g.inc).sublist (List.take_sublist _ _)) em3 ea
            have hlist := hrow m l.2 as[m] em3 ea
            refine ⟨_, rfl, _, rfl, ixT hb rfl ⟨R, _, rfl, ?_, as[m], rfl, ⟨_, sqL (sF _ _ _ hlist)⟩, ?_⟩⟩
            · have := DGet.k (k := Sum.inl l.2) (sF (mkS fs) _ _ hR)
              rw [rv] at this
              exact this
            · refine for_list (K := K) (a := as[m]) (xs := (belowL ws ls l.2).map V.int) (fun n σ H' => ∃ z5 : Option V, σ = [some (.ref p), some (.ref R), some (.int v), some (.ref F), some (.ref b), z5] ∧ H' = upd H1 F (.dK (mkS (insAll fs ((belowL ws ls l.2).take n))))) ?_ ?_ ?_ ?_
              · exact ⟨z5, rfl, by rw [List.take_zero]; rfl⟩
              · rintro n σ H' _ ⟨_, _, rfl⟩
                exact sqL (sF _ _ _ hlist)
              · rintro n x σ H' hxn ⟨z5, rfl, rfl⟩
                rw [List.getElem?_map] at hxn
                cases eu : (belowL ws ls l.2)[n]? with
                | none => rw [eu] at hxn; cases hxn
                | some u =>
                  rw [eu] at hxn
                  cases Option.some.inj hxn
                  have hnd : (insAll fs ((belowL ws ls l.2).take n)).Nodup := nodup_insAll fd.1
                  have hlen : (mkS (insAll fs ((belowL ws ls l.2).take n))).length < sizeLine := by
                    rw [mkS_length]
                    have := length_sub (vs := ws) hnd fun y hy => by
                      rcases mem_insAll.mp hy with hy | hy
                      · rcases (fd.2 y).mp hy with rfl | ⟨l', hl', _, d⟩
                        · exact hvm
                        · exact d.mem g (g.mem l' (List.mem_of_mem_take hl')).2.1
                      · exact ((mem_belowL g m2).mp (List.mem_of_mem_take hy)).mem g m2
                    exact Nat.lt_of_le_of_lt (show _ ≤ 1000 by omega) (by decide)
                  refine ⟨_, rfl, _, rfl, F, _, rfl, DPut.k (k := Sum.inl u) updS hlen, _, rfl, ?_⟩
                  rw [upd_upd, mkS_put, take_snoc eu, insAll_snoc]
              · rintro σ H' ⟨z5, rfl, rfl⟩
                rw [List.length_map, List.take_length]
                refine ⟨_, _, _, rfl, rfl, nodup_insAll fd.1, fun x => ?_⟩
                rw [mem_insAll, fd.2, mem_belowL g m2, tk]
                refine ⟨fun h => ?_, fun h => ?_⟩
                · rcases h with (h | ⟨l', hl', h⟩) | h
                  · exact .inl h
                  · exact .inr ⟨l', List.mem_append_left _ hl', h⟩
                  · exact .inr ⟨l, List.mem_append_right _ (List.mem_singleton.mpr rfl), e1, h⟩
                · rcases h with h | ⟨l', hl', e', d⟩
                  · exact .inl (.inl h)
                  · rcases List.mem_append.mp hl' with hl' | hl'
                    · exact .inl (.inr ⟨l', hl', e', d⟩)
                    · cases List.mem_singleton.mp hl'
                      exact .inr d
          · have e1 : ¬ l.1 = v := fun z => e (decide_eq_true (by rw [z]))
            refine ⟨fs, _, _, rfl, rfl, fd.1, fun x => ?_⟩
            rw [fd.2, tk]
            refine or_congr Iff.rfl ⟨fun ⟨l', hl', h⟩ => ⟨l', List.mem_append_left _ hl', h⟩, fun ⟨l', hl', h⟩ => ?_⟩
            rcases List.mem_append.mp hl' with hl' | hl'
            · exact ⟨l', hl', h⟩
            · cases List.mem_singleton.mp hl'
              exact absurd h.1 e1
      · rintro σ H' ⟨fs, z4, z5, rfl, rfl, fd⟩
        rw [List.length_map, lk.1] at fd
        have hin : ∀ x ∈ fs, x ∈ ws := fun x hx => ((fd.all x).mp hx).mem g hvm
        have hfl := length_sub fd.1 hin
        -- rows[version] = sorted(found)
        refine ⟨_, rfl, F, mkS fs, fs, rfl, .inl updS, mkS_keys fs, by omega, fun ys S py sy nS => ?_⟩
        have ey : ys = belowL ws ls v := by
          rw [sorted_is g.inc fd.1 hin py sy]
          unfold belowL
          refine List.filter_congr fun u _ => ?_
          have : fs.contains u = (lower ls [v]).contains u := by
            rw [Bool.eq_iff_iff, List.contains_iff_mem, List.contains_iff_mem, fd.all, mem_lower g]
            exact ⟨fun d => ⟨v, List.mem_singleton.mpr rfl, d⟩, fun ⟨s, hs, d⟩ => by rw [← List.mem_singleton.mp hs]; exact d⟩
          exact this
        subst ey
        have nSR : R ≠ S := ne_of_none (sF (mkS fs) _ _ hR) nS
        have nS1 : H1 S = none := by
          cases e : H1 S with
          | none => rfl
          | some o => rw [sF (mkS fs) _ _ e] at nS; cases nS
        have nvt : v ∉ ws.take i := fun hm => by
          obtain ⟨j, hj, e⟩ := List.getElem_of_mem hm
          rw [htl] at hj
          rw [List.getElem_take] at e
          have h1 := List.getElem?_eq_some_iff.mp ev
          have := (List.getElem_inj (rising_nodup g.inc)).mp (e.trans h1.2.symm)
          omega
        refine ⟨_, rfl, _, rfl, R, _, rfl, DPut.k (k := Sum.inl v) (updN nSR (sF _ _ _ hR)) ?_, as ++ [S], _, _, _, _, rfl, ?_, ?_, ?_, ?_⟩
        · rw [rowsKV_length hal, htl]
          exact Nat.lt_of_le_of_lt (show i ≤ 1000 by omega) (by decide)
        · refine ⟨fun b o e => updN (ne_of_none e nR) (updN (ne_of_none (s1 _ _ e) nS1) (sF _ _ _ (s1 _ _ e))), fun a ha => ?_⟩
          rcases List.mem_append.mp ha with ha | ha
          · exact hfree a ha
          · rw [List.mem_singleton.mp ha]
            exact s1.free nS1
        · rw [List.length_append, take_snoc ev, List.length_append, hal]
          rfl
        · rw [updS, putK_new _ (rows_none nvt), take_snoc ev, rowsKV_snoc hal]
        · intro m w a h1 h2
          have keep : ∀ b xs, H1 b = some (.lst xs) → upd (upd (upd H1 F (.dK (mkS fs))) S (.lst ((belowL ws ls v).map V.int))) R (.dK (putK (rowsKV (ws.take i) as) (.inl v) (.ref S))) b = some (.lst xs) := fun b xs e =>
            updN (ne_of e hR (by intro z; cases z)) (updN (ne_of_none e nS1) (sF _ _ _ e))
          rw [take_snoc ev] at h1
          by_cases hmi : m < i
          · rw [List.getElem?_append_left (by rw [htl]; exact hmi)] at h1
            rw [List.getElem?_append_left (by rw [hal, htl]; exact hmi)] at h2
            exact keep _ _ (hrow m w a h1 h2)
          · have hm2 := (List.getElem?_eq_some_iff.mp h1).1
            rw [List.length_append, htl, List.length_singleton] at hm2
            have : m = i := by omega
            subst this
            rw [List.getElem?_append_right (by rw [htl]; exact Nat.le_refl _), htl, Nat.sub_self] at h1
            rw [List.getElem?_append_right (by rw [hal, htl]; exact Nat.le_refl _), hal, htl, Nat.sub_self] at h2
            cases Option.some.inj h1
            cases Option.some.inj h2
            exact updN nSR.symm updS
  · rintro σ H' ⟨as, z2, z3, z4, z5, rfl, ⟨s1, hfree⟩, rw1⟩
    rw [List.length_map, List.take_length] at rw1
    exact ⟨_, rfl, k R as _ s1 nR rw1 hfree⟩
end Fw

set_option Elab.async false
set_option linter.all false
set_option maxRecDepth 100000
set_option maxHeartbeats 4000000
namespace Fw
open PySem L2 RZ RT
/-! ### ladders -/
/-- where one list of links grows -/
structure LI (H0 : Hp) (c D LL : Addr) (ns : List Int) (t : Nat) (rs : List Addr) (ls : List (Int × Int)) (H : Hp) : Prop where
  dk : Dk c D ns t H
  keep : Kp D H0 H
  hl : H LL = some (.lst (rs.map V.ref))
  pr : LkAt H rs ls
  d0 : ∃ t0, Dk c D ns t0 H0
  l0 : H0 LL = none
section
variable {H0 H H' : Hp} {c D LL q : Addr} {ns : List Int} {t t' : Nat} {rs : List Addr} {ls : List (Int × Int)} {o : HO}
theorem LI.lD (s : LI H0 c D LL ns t rs ls H) : LL ≠ D := s.d0.choose_spec.neD s.l0
theorem LI.lC (s : LI H0 c D LL ns t rs ls H) : LL ≠ c := s.d0.choose_spec.neC s.l0
theorem LI.new (s : LI H0 c D LL ns t rs ls H) (n : H q = none) : LI H0 c D LL ns t rs ls (upd H q o) :=
  ⟨s.dk.upd (s.dk.neC n) (s.dk.neD n), s.keep.trans (.new n), updN (ne_of_none s.hl n) s.hl, s.pr.mono fun a xs h => updN (ne_of_none h n) h, s.d0, s.l0⟩
theorem LI.addL (s : LI H0 c D LL ns t rs ls H) {T : Addr} {l : Int × Int} (hT : H T = some (.tup [.int l.1, .int l.2])) : LI H0 c D LL ns t (rs ++ [T]) (ls ++ [l]) (upd H LL (.lst (rs.map V.ref ++ [.ref T]))) :=
  ⟨s.dk.upd s.lC s.lD, fun b u e n => updN (ne_of_none e s.l0) (s.keep b u e n), by rw [updS, List.map_append]; rfl, (s.pr.snoc hT).mono fun a xs h => updN (ne_of h s.hl (by intro z; cases z)) h, s.d0, s.l0⟩
end
theorem GI.le {vs : List Int} {ls : List (Int × Int)} {last : Int} {j j' : Nat} (g : GI vs ls last j) (h : j ≤ j') : GI vs ls last j' :=
  ⟨g.inc, g.nn, g.top, g.lz, g.mem, g.lex, fun l hl => (g.new l hl).imp id fun k => ⟨k.1, fun i w hi => k.2 i w (by omega)⟩⟩
theorem vsL_snoc (a g : Int) (n : Nat) : vsL a g (n + 1) = vsL a g n ++ [a + g * (n : Int)] := by
  unfold vsL
  rw [List.range_succ, List.map_append]
  rfl
/-- the place behind j1, behind j2 -/
def ix2 (j1 j2 : Int) (n : Nat) : Nat := if n = 0 then 0 else if n = 1 then (j1 + 1).toNat else (j2 + 1).toNat
abbrev sp_l_ladder (_ : PySem.W.Frag) : Sp := sp_mkshape 60 4000 (fun most n => (n : Int) ≤ most) (fun _ ls => ls.length ≤ 4000)
theorem len_l_ladder {K : PySem.W.Frag} {vs : List V} {H : Hp} {Q : VK} {E : XK} (h : sp_l_ladder K vs H Q E) : vs.length = 2 := len_mkshape h
abbrev N_l_ladder : List Str := ["_law_deck_here", "_law_most", "_law_first", "_law_gap", "_law_pairs", "_law_many", "_law_links", "_law_k", "_law_j"]
def t_l_ladder_b (K : PySem.W.Frag) : TS := (tFor (iList K (tLst (tCons (tOp rSubI (tVar 7) (tC (.int 2))) (tCons (tOp rSubI (tVar 7) (tC (.int 1))) tNil)))) (gName 8) (tIfS (tAnd (tTest (tOp rEq (tVar 4) (tC (.int 0)))) (tTest (tOp rGeI (tVar 8) (tC (.int 0))))) (tDrop (tBM K "list" rAppend (tVar 6) (tCons (tTup (tCons (tOp rAddI (tVar 2) (tOp rMulI (tVar 3) (tVar 7))) (tCons (tOp rAddI (tVar 2) (tOp rMulI (tVar 3) (tVar 8))) tNil))) tNil))) tNext))
def t_l_ladder_a (K : PySem.W.Frag) : TS := (tSeq (tFor (iList K (tLst (tCons (tOp rAddI (tOp rSubI (tVar 7) (tC (.int 3))) (tOp rModI (tOp rAddI (tVar 7) (tC (.int 1))) (tC (.int 2)))) (tCons (tOp rAddI (tOp rSubI (tVar 7) (tC (.int 2))) (tOp rModI (tOp rAddI (tVar 7) (tC (.int 1))) (tC (.int 2)))) tNil)))) (gName 8) (tIfS (tAnd (tTest (tOp rEq (tVar 4) (tC (.int 1)))) (tTest (tOp rGeI (tVar 8) (tC (.int 0))))) (tDrop (tBM K "list" rAppend (tVar 6) (tCons (tTup (tCons (tOp rAddI (tVar 2) (tOp rMulI (tVar 3) (tVar 7))) (tCons (tOp rAddI (tVar 2) (tOp rMulI (tVar 3) (tVar 8))) tNil))) tNil))) tNext))
    (t_l_ladder_b K))
def t_l_ladder_end (K : PySem.W.Frag) : TS := (tRet (tTup (tCons (tCB (fTupleOf K) (tCons (tLc (iRng1 (tCons (tVar 5) tNil)) (gName 7) tYes (tOp rAddI (tVar 2) (tOp rMulI (tVar 3) (tVar 7))) [7]) tNil)) (tCons (tCB (fTupleOf K) (tCons (tVar 6) tNil)) tNil))))
def t_l_ladder_loop (K : PySem.W.Frag) : TS := (tSeq (tFor (iRng1 (tCons (tVar 5) tNil)) (gName 7) (t_l_ladder_a K))
    (t_l_ladder_end K))
def t_l_ladder (K : PySem.W.Frag) : TS := (tSeq (tAsg (tCall (sp_l_draw K) [] E0 (tCons (tVar 0) (tCons (tOp rPowI (tC (.int 10)) (tC (.int 6))) tNil))) (gName 2))
    (tSeq (tAsg (tOp rAddI (tC (.int 1)) (tCall (sp_l_draw K) [] E0 (tCons (tVar 0) (tCons (tC (.int 3)) tNil)))) (gName 3))
    (tSeq (tAsg (tCall (sp_l_draw K) [] E0 (tCons (tVar 0) (tCons (tC (.int 2)) tNil))) (gName 4))
    (tSeq (tAsg (tOp rAddI (tOp rDivI (tVar 1) (tC (.int 2))) (tCall (sp_l_draw K) [] E0 (tCons (tVar 0) (tCons (tOp rAddI (tOp rDivI (tVar 1) (tC (.int 2))) (tC (.int 1))) tNil)))) (gName 5))
    (tSeq (tAsg (tLst tNil) (gName 6))
    (t_l_ladder_loop K))))))
/-- the state of a loop over two -/
def Lad (H : Hp) (c D LL : Addr) (ns : List Int) (most a gp pr many : Int) (t i : Nat) (pv : Int) (j0 : Nat) (ix : Nat → Nat) (add : Nat) (n : Nat) (σ : L2.St) (H' : Hp) : Prop := ∃ (rs : List Addr) (ls : List (Int × Int)) (z8 : Option V),
  σ = [some (.ref D), some (.int most), some (.int a), some (.int gp), some (.int pr), some (.int many), some (.ref LL), some (.int (0 + (i : Int))), z8] ∧ LI H c D LL ns (t + 4) rs ls H' ∧ GI (vsL a gp i) ls (a + gp * (i : Int)) (if pr = pv then ix n else j0) ∧ ls.length ≤ 4 * i + add + n
theorem pure_l_ladder {K : PySem.W.Frag} {vs : List V} {H : Hp} {Q : VK} {E : XK} (h : sp_l_ladder K vs H Q E) : t_l_ladder K { nx := fun _ H' => Q .non H', rt := Q } (start N_l_ladder vs) H := by
  obtain ⟨c, D, ns, t, most, rfl, dk, m0, m1, ht, k⟩ := h
  refine ⟨_, rfl, _, _, rfl, rfl, ⟨by decide, by decide, by decide⟩, c, D, ns, t, _, rfl, dk, by omega, by rw [pow6]; decide, by rw [pow6]; decide, fun a H1 a0 a1 d1 fr1 => ?_⟩
  rw [pow6] at a1
  refine ⟨_, rfl, c, D, ns, _, 3, rfl, d1, by omega, by decide, by decide, fun g1 H2 g10 g11 d2 fr2 => ⟨_, _, rfl, rfl, ?_⟩⟩
  refine ⟨_, rfl, c, D, ns, _, 2, rfl, d2, by omega, by decide, by decide, fun pr H3 p0 p1 d3 fr3 => ?_⟩
  refine ⟨_, rfl, _, _, rfl, rfl, ⟨by decide, by decide⟩, _, rfl, _, rfl, _, _, rfl, rfl, ⟨by decide, by decide⟩, _, _, rfl, rfl, c, D, ns, _, most / 2 + 1, rfl, d3, by omega, by omega, small100 (by omega), fun x H4 x0 x1 d4 fr4 => ⟨_, _, rfl, rfl, ?_⟩⟩
  have k4 : Kp D H H4 := (((Kp.fr fr1).trans (.fr fr2)).trans (.fr fr3)).trans (.fr fr4)
  obtain ⟨N, hN⟩ := Int.eq_ofNat_of_zero_le (show 0 ≤ most / 2 + x by omega)
  obtain ⟨gp, hgp⟩ : ∃ gp, gp = 1 + g1 := ⟨_, rfl⟩
  have gp0 : 1 ≤ gp := by omega
  have gp1 : gp ≤ 3 := by omega
  refine ⟨Nat.zero_le _, fun LL nL => ?_⟩
  show t_l_ladder_loop K _ [some (.ref D), some (.int most), some (.int a), some (.int (1 + g1)), some (.int pr), some (.int (most / 2 + x)), some (.ref LL), none, none] _
  rw [← hgp]
  generalize hmany : most / 2 + x = many at *
  have s0 : LI H c D LL ns (t + 4) [] [] (upd H4 LL (.lst [])) := ⟨d4.upd (d4.neC nL) (d4.neD nL), k4.trans (.new nL), updS, ⟨rfl, fun i b l h1 _ => by cases h1⟩, ⟨t, dk⟩, k4.free nL (d4.neD nL)⟩
  refine ⟨_, rfl, _, rfl, by omega, by omega, ?_⟩
  have eN : many.toNat = N := by omega
  rw [eN]
  refine for_range (lo := 0) (n := N) (fun i σ H' => ∃ (rs : List Addr) (ls : List (Int × Int)) (z7 z8 : Option V), σ = [some (.ref D), some (.int most), some (.int a), some (.int gp), some (.int pr), some (.int many), some (.ref LL), z7, z8] ∧ LI H c D LL ns (t + 4) rs ls H' ∧ Good (vsL a gp i) ls ∧ ls.length ≤ 4 * i) ?_ ?_ ?_
  · exact ⟨[], [], none, none, rfl, s0, good_nil, Nat.le_refl _⟩
  · rintro i σ H5 hi ⟨rs, ls, z7, z8, rfl, s, g, hlen⟩
    have g0 : GI (vsL a gp i) ls (a + gp * (i : Int)) 0 := .open g (fun v hv => by
      obtain ⟨kk, hk, rfl⟩ := vsL_mem hv
      exact mono_g (by omega) hk) (by
      have := Int.mul_nonneg (show 0 ≤ gp by omega) (show (0 : Int) ≤ (i : Int) by omega)
      omega)
    have e0 : (0 : Int) + (i : Int) = (i : Int) := Int.zero_add _
    have pickA : ∀ (n : Nat) (x : V), [V.int ((i : Int) - 3 + ((i : Int) + 1) % 2), V.int ((i : Int) - 2 + ((i : Int) + 1) % 2)][n]? = some x → ∃ j : Int, x = .int j ∧ (j < (i : Int)) ∧ ix2 ((i : Int) - 3 + ((i : Int) + 1) % 2) ((i : Int) - 2 + ((i : Int) + 1) % 2) n ≤ j.toNat ∧ (j + 1).toNat ≤ ix2 ((i : Int) - 3 + ((i : Int) + 1) % 2) ((i : Int) - 2 + ((i : Int) + 1) % 2) (n + 1) := by
      intro n x hx
      match n, hx with
      | 0, hx => exact ⟨_, (Option.some.inj hx).symm, by omega, by show 0 ≤ _; omega, Nat.le_refl _⟩
      | 1, hx => exact ⟨_, (Option.some.inj hx).symm, by omega, by show ((i : Int) - 3 + ((i : Int) + 1) % 2 + 1).toNat ≤ _; omega, Nat.le_refl _⟩
      | n + 2, hx => simp at hx
    have pickB : ∀ (n : Nat) (x : V), [V.int ((i : Int) - 2), V.int ((i : Int) - 1)][n]? = some x → ∃ j : Int, x = .int j ∧ (j < (i : Int)) ∧ ix2 ((i : Int) - 2) ((i : Int) - 1) n ≤ j.toNat ∧ (j + 1).toNat ≤ ix2 ((i : Int) - 2) ((i : Int) - 1) (n + 1) := by
      intro n x hx
      match n, hx with
      | 0, hx => exact ⟨_, (Option.some.inj hx).symm, by omega, by show 0 ≤ _; omega, Nat.le_refl _⟩
      | 1, hx => exact ⟨_, (Option.some.inj hx).symm, by omega, by show ((i : Int) - 2 + 1).toNat ≤ _; omega, Nat.le_refl _⟩
      | n + 2, hx => simp at hx
    have second : ∀ (jz : Nat) (rs : List Addr) (ls : List (Int × Int)) (z8 : Option V) (H6 : Hp) (Dd : Ends), (∀ (rs : List Addr) (ls : List (Int × Int)) (z7 z8 : Option V) (H' : Hp), LI H c D LL ns (t + 4) rs ls H' → Good (vsL a gp (i + 1)) ls → ls.length ≤ 4 * (i + 1) → Dd.nx [some (.ref D), some (.int most), some (.int a), some (.int gp), some (.int pr), some (.int many), some (.ref LL), z7, z8] H') →
        LI H c D LL ns (t + 4) rs ls H6 → GI (vsL a gp i) ls (a + gp * (i : Int)) (if pr = 0 then 0 else jz) → ls.length ≤ 4 * i + 2 → t_l_ladder_b K Dd [some (.ref D), some (.int most), some (.int a), some (.int gp), some (.int pr), some (.int many), some (.ref LL), some (.int (0 + (i : Int))), z8] H6 := by
      intro jz rs ls z8 H6 Dd kd s5 g5 hl5
      refine ⟨_, rfl, _, _, rfl, rfl, _, rfl, _, _, rfl, rfl, (by show (2 : Nat) ≤ sizeLine; decide), fun q nq => ⟨q, rfl, ⟨_, sqL updS⟩, ?_⟩⟩
      have ex : [V.int (0 + (i : Int) - 2), V.int (0 + (i : Int) - 1)] = [V.int ((i : Int) - 2), V.int ((i : Int) - 1)] := by rw [e0]
      have sq : LI H c D LL ns (t + 4) rs ls (upd H6 q (.lst [V.int ((i : Int) - 2), V.int ((i : Int) - 1)])) := s5.new nq
      have nqL : q ≠ LL := (ne_of_none s5.hl nq).symm
      show ∃ W : Nat → Nat → L2.St → Hp → Prop, (∃ m, W 0 m _ (upd H6 q (.lst [V.int (0 + (i : Int) - 2), V.int (0 + (i : Int) - 1)]))) ∧ _
      rw [ex]
      refine for_list (K := K) (a := q) (xs := [V.int ((i : Int) - 2), V.int ((i : Int) - 1)]) (fun n σ H' => Lad H c D LL ns most a gp pr many t i 0 jz (ix2 ((i : Int) - 2) ((i : Int) - 1)) 2 n σ H' ∧ H' q = some (.lst [V.int ((i : Int) - 2), V.int ((i : Int) - 1)])) ?_ ?_ ?_ ?_
      · exact ⟨⟨rs, ls, z8, rfl, sq, g5, hl5⟩, updS⟩
      · rintro n σ H' _ ⟨_, hq⟩
        exact sqL hq
      · rintro n x σ H6 hx ⟨⟨rs, ls, z8, rfl, s6, g6, hl6⟩, hq6⟩
        have hn2 : n < 2 := (List.getElem?_eq_some_iff.mp hx).1
        obtain ⟨j, rfl, hj1, hj2, hj3⟩ := pickB n x hx
        have nxt : ∀ (rs : List Addr) (ls : List (Int × Int)) (H7 : Hp), LI H c D LL ns (t + 4) rs ls H7 → GI (vsL a gp i) ls (a + gp * (i : Int)) (if pr = 0 then (ix2 ((i : Int) - 2) ((i : Int) - 1)) (n + 1) else jz) → ls.length ≤ 4 * i + 2 + n + 1 → H7 q = some (.lst [V.int ((i : Int) - 2), V.int ((i : Int) - 1)]) → Lad H c D LL ns most a gp pr many t i 0 jz (ix2 ((i : Int) - 2) ((i : Int) - 1)) 2 (n + 1) [some (.ref D), some (.int most), some (.int a), some (.int gp), some (.int pr), some (.int many), some (.ref LL), some (.int (0 + (i : Int))), some (.int j)] H7 ∧ H7 q = some (.lst [V.int ((i : Int) - 2), V.int ((i : Int) - 1)]) := fun rs ls H7 s7 g7 hl7 hq7 => ⟨⟨rs, ls, _, rfl, s7, g7, by omega⟩, hq7⟩
        refine ⟨_, rfl, rfl, _, rfl, ite2 (fun e => ?_) (fun e => ?_)⟩
        · have e1 : pr = 0 := V.int.inj (of_decide_eq_true e)
          rw [if_pos e1] at g6
          refine ⟨_, rfl, _, _, rfl, rfl, _, rfl, ite2 (fun e2 => ?_) (fun e2 => ?_)⟩
          · have j0 : 0 ≤ j := of_decide_eq_true e2
            obtain ⟨J, rfl⟩ := Int.eq_ofNat_of_zero_le j0
            have gj : GI (vsL a gp i) ls (a + gp * (i : Int)) J := g6.le (by omega)
            have wj : (vsL a gp i)[J]? = some (a + gp * (J : Int)) := vsL_get (by omega)
            refine ⟨_, rfl, .inl ⟨rfl, _, sqL s6.hl⟩, _, rfl, _, rfl, _, rfl, _, _, rfl, rfl, .inl ⟨by omega, by omega⟩, _, _, rfl, rfl, _, rfl, _, rfl, _, rfl, _, _, rfl, rfl, .inl ⟨by omega, by omega⟩, _, _, rfl, rfl, (by show (2 : Nat) ≤ sizeLine; decide), fun T nT => ?_⟩
            rw [e0]
            have s8 : LI H c D LL ns (t + 4) rs ls (upd H6 T (.tup [.int (a + gp * (i : Int)), .int (a + gp * (J : Int))])) := s6.new nT
            refine ⟨LL, _, _, rfl, rfl, s8.hl, ?_, ?_⟩
            · rw [List.length_map, s6.pr.1]
              exact Nat.lt_of_le_of_lt (show ls.length ≤ 1000 by omega) (by decide)
            · have h9 := nxt (rs ++ [T]) (ls ++ [(a + gp * (i : Int), a + gp * (J : Int))]) _ (s8.addL (l := (a + gp * (i : Int), a + gp * (J : Int))) updS) (by rw [if_pos e1]; exact (gj.hit wj).le (by omega)) (by rw [List.length_append, List.length_singleton]; omega) (updN nqL (updN (ne_of_none hq6 nT) hq6))
              rw [e0] at h9
              exact h9
          · have j0 : ¬ 0 ≤ j := fun z => e2 (decide_eq_true z)
            exact nxt rs ls H6 s6 (by rw [if_pos e1]; exact g6.le (by omega)) (by omega) hq6
        · have e1 : ¬ pr = 0 := fun z => e (decide_eq_true (by rw [z]))
          rw [if_neg e1] at g6
          exact iteF (nxt rs ls H6 s6 (by rw [if_neg e1]; exact g6) (by omega) hq6)
      · rintro σ H' ⟨⟨rs, ls, z8, rfl, s6, g6, hl6⟩, _⟩
        refine kd rs ls _ _ H' s6 ?_ (by show _ ≤ _; have : [V.int ((i : Int) - 2), V.int ((i : Int) - 1)].length = 2 := rfl; omega)
        rw [vsL_snoc]
        exact g6.close
    refine ⟨_, rfl, _, _, rfl, rfl, _, rfl, _, _, rfl, rfl, _, _, rfl, rfl, (by show (0 : Int) < 2; decide), _, _, rfl, rfl, _, rfl, _, _, rfl, rfl, _, rfl, _, _, rfl, rfl, _, _, rfl, rfl, (by show (0 : Int) < 2; decide), _, _, rfl, rfl, (by show (2 : Nat) ≤ sizeLine; decide), fun q nq => ⟨q, rfl, ⟨_, sqL updS⟩, ?_⟩⟩
    have ex : [V.int (0 + (i : Int) - 3 + (0 + (i : Int) + 1) % 2), V.int (0 + (i : Int) - 2 + (0 + (i : Int) + 1) % 2)] = [V.int ((i : Int) - 3 + ((i : Int) + 1) % 2), V.int ((i : Int) - 2 + ((i : Int) + 1) % 2)] := by rw [e0]
    have sq : LI H c D LL ns (t + 4) rs ls (upd H5 q (.lst [V.int ((i : Int) - 3 + ((i : Int) + 1) % 2), V.int ((i : Int) - 2 + ((i : Int) + 1) % 2)])) := s.new nq
    have nqL : q ≠ LL := (ne_of_none s.hl nq).symm
    show ∃ W : Nat → Nat → L2.St → Hp → Prop, (∃ m, W 0 m _ (upd H5 q (.lst [V.int (0 + (i : Int) - 3 + (0 + (i : Int) + 1) % 2), V.int (0 + (i : Int) - 2 + (0 + (i : Int) + 1) % 2)]))) ∧ _
    rw [ex]
    refine for_list (K := K) (a := q) (xs := [V.int ((i : Int) - 3 + ((i : Int) + 1) % 2), V.int ((i : Int) - 2 + ((i : Int) + 1) % 2)]) (fun n σ H' => Lad H c D LL ns most a gp pr many t i 1 0 (ix2 ((i : Int) - 3 + ((i : Int) + 1) % 2) ((i : Int) - 2 + ((i : Int) + 1) % 2)) 0 n σ H' ∧ H' q = some (.lst [V.int ((i : Int) - 3 + ((i : Int) + 1) % 2), V.int ((i : Int) - 2 + ((i : Int) + 1) % 2)])) ?_ ?_ ?_ ?_
    · refine ⟨⟨rs, ls, z8, rfl, sq, ?_, hlen⟩, updS⟩
      split <;> exact g0
    · rintro n σ H' _ ⟨_, hq⟩
      exact sqL hq
    · rintro n x σ H6 hx ⟨⟨rs, ls, z8, rfl, s6, g6, hl6⟩, hq6⟩
      have hn2 : n < 2 := (List.getElem?_eq_some_iff.mp hx).1
      obtain ⟨j, rfl, hj1, hj2, hj3⟩ := pickA n x hx
      have nxt : ∀ (rs : List Addr) (ls : List (Int × Int)) (H7 : Hp), LI H c D LL ns (t + 4) rs ls H7 → GI (vsL a gp i) ls (a + gp * (i : Int)) (if pr = 1 then (ix2 ((i : Int) - 3 + ((i : Int) + 1) % 2) ((i : Int) - 2 + ((i : Int) + 1) % 2)) (n + 1) else 0) → ls.length ≤ 4 * i + 0 + n + 1 → H7 q = some (.lst [V.int ((i : Int) - 3 + ((i : Int) + 1) % 2), V.int ((i : Int) - 2 + ((i : Int) + 1) % 2)]) → Lad H c D LL ns most a gp pr many t i 1 0 (ix2 ((i : Int) - 3 + ((i : Int) + 1) % 2) ((i : Int) - 2 + ((i : Int) + 1) % 2)) 0 (n + 1) [some (.ref D), some (.int most), some (.int a), some (.int gp), some (.int pr), some (.int many), some (.ref LL), some (.int (0 + (i : Int))), some (.int j)] H7 ∧ H7 q = some (.lst [V.int ((i : Int) - 3 + ((i : Int) + 1) % 2), V.int ((i : Int) - 2 + ((i : Int) + 1) % 2)]) := fun rs ls H7 s7 g7 hl7 hq7 => ⟨⟨rs, ls, _, rfl, s7, g7, by omega⟩, hq7⟩
      refine ⟨_, rfl, rfl, _, rfl, ite2 (fun e => ?_) (fun e => ?_)⟩
      · have e1 : pr = 1 := V.int.inj (of_decide_eq_true e)
        rw [if_pos e1] at g6
        refine ⟨_, rfl, _, _, rfl, rfl, _, rfl, ite2 (fun e2 => ?_) (fun e2 => ?_)⟩
        · have j0 : 0 ≤ j := of_decide_eq_true e2
          obtain ⟨J, rfl⟩ := Int.eq_ofNat_of_zero_le j0
          have gj : GI (vsL a gp i) ls (a + gp * (i : Int)) J := g6.le (by omega)
          have wj : (vsL a gp i)[J]? = some (a + gp * (J : Int)) := vsL_get (by omega)
          refine ⟨_, rfl, .inl ⟨rfl, _, sqL s6.hl⟩, _, rfl, _, rfl, _, rfl, _, _, rfl, rfl, .inl ⟨by omega, by omega⟩, _, _, rfl, rfl, _, rfl, _, rfl, _, rfl, _, _, rfl, rfl, .inl ⟨by omega, by omega⟩, _, _, rfl, rfl, (by show (2 : Nat) ≤ sizeLine; decide), fun T nT => ?_⟩
          rw [e0]
          have s8 : LI H c D LL ns (t + 4) rs ls (upd H6 T (.tup [.int (a + gp * (i : Int)), .int (a + gp * (J : Int))])) := s6.new nT
          refine ⟨LL, _, _, rfl, rfl, s8.hl, ?_, ?_⟩
          · rw [List.length_map, s6.pr.1]
            exact Nat.lt_of_le_of_lt (show ls.length ≤ 1000 by omega) (by decide)
          · have h9 := nxt (rs ++ [T]) (ls ++ [(a + gp * (i : Int), a + gp * (J : Int))]) _ (s8.addL (l := (a + gp * (i : Int), a + gp * (J : Int))) updS) (by rw [if_pos e1]; exact (gj.hit wj).le (by omega)) (by rw [List.length_append, List.length_singleton]; omega) (updN nqL (updN (ne_of_none hq6 nT) hq6))
            rw [e0] at h9
            exact h9
        · have j0 : ¬ 0 ≤ j := fun z => e2 (decide_eq_true z)
          exact nxt rs ls H6 s6 (by rw [if_pos e1]; exact g6.le (by omega)) (by omega) hq6
      · have e1 : ¬ pr = 1 := fun z => e (decide_eq_true (by rw [z]))
        rw [if_neg e1] at g6
        exact iteF (nxt rs ls H6 s6 (by rw [if_neg e1]; exact g6) (by omega) hq6)
    · rintro σ H' ⟨⟨rs, ls, z8, rfl, s6, g6, hl6⟩, _⟩
      refine second (ix2 ((i : Int) - 3 + ((i : Int) + 1) % 2) ((i : Int) - 2 + ((i : Int) + 1) % 2) 2) rs ls z8 H' _ (fun rs ls z7 z8 H' s9 g9 h9 => ⟨rs, ls, z7, z8, rfl, s9, g9, h9⟩) s6 ?_ (by have : [V.int ((i : Int) - 3 + ((i : Int) + 1) % 2), V.int ((i : Int) - 2 + ((i : Int) + 1) % 2)].length = 2 := rfl; omega)
      by_cases hp0 : pr = 0
      · rw [if_pos hp0]
        rw [if_neg (show ¬ pr = 1 by omega)] at g6
        exact g6
      · rw [if_neg hp0]
        rw [if_pos (show pr = 1 by omega)] at g6
        exact g6
  · rintro σ H5 ⟨rs, ls, z7, z8, rfl, s, g, hlen⟩
    refine ⟨_, rfl, _, rfl, by omega, by omega, fun LV nV => ?_⟩
    have eN2 : many.toNat = N := by omega
    rw [eN2]
    refine lc_mapR (lo := 0) (n := N) (ys := (vsL a gp N).map V.int) (by rw [List.length_map, vsL_length]) (by omega) (fun i y acc R hi hy r => ?_) ?_ mono_yes mono_gName
    · rw [List.getElem?_map, vsL_get hi] at hy
      cases Option.some.inj hy
      refine ⟨rfl, ⟨_, rfl, _, rfl, _, rfl, _, _, rfl, rfl, .inl ⟨by omega, by omega⟩, _, _, rfl, rfl, ?_⟩⟩
      rw [Int.zero_add]
      exact r
    · have sV : LI H c D LL ns (t + 4) rs ls (upd H5 LV (.lst ((vsL a gp N).map V.int))) := s.new nV
      refine ⟨LV, _, rfl, .inl ⟨sqL updS, fun p np => ?_⟩⟩
      have s1 : LI H c D LL ns (t + 4) rs ls (upd (upd H5 LV (.lst ((vsL a gp N).map V.int))) p (.tup ((vsL a gp N).map V.int))) := sV.new np
      refine ⟨_, rfl, LL, _, rfl, .inl ⟨sqL s1.hl, fun r nr => ⟨by show (2 : Nat) ≤ sizeLine; decide, fun w nw => ?_⟩⟩⟩
      have s2 := s1.new (o := .tup (rs.map V.ref)) nr
      have s3 := s2.new (o := .tup [.ref p, .ref r]) nw
      have npr : p ≠ r := fun e => by rw [← e, updS] at nr; cases nr
      have npw : p ≠ w := fun e => by rw [← e, upd_ne npr, updS] at nw; cases nw
      have nrw : r ≠ w := fun e => by rw [← e, updS] at nw; cases nw
      exact k w (vsL a gp N) ls _ s3.keep (s3.dk.le (by omega)) ⟨p, r, rs, updS, updN npw (updN npr updS), updN nrw updS, s3.pr⟩ g (show (((vsL a gp N).length : Nat) : Int) ≤ most by rw [vsL_length]; omega) (show ls.length ≤ 4000 by omega)
end Fw

set_option Elab.async false
set_option linter.all false
set_option maxRecDepth 100000
set_option maxHeartbeats 4000000
namespace Fw
open PySem L2 RZ RT
/-! ### shape or ladder -/
def sp_l_shape_or_ladder (_ : PySem.W.Frag) : Sp := fun vs H Q _ => ∃ (c D : Addr) (ns : List Int) (t : Nat) (most high : Int), vs = [.ref D, .int most, .int high] ∧ Dk c D ns t H ∧ 0 ≤ most ∧ most ≤ 60 ∧ 0 ≤ high ∧ high ≤ 60 ∧ t + 4001 < 1000000000 ∧
  ∀ (p : Addr) (ws : List Int) (ls : List (Int × Int)) (H' : Hp), Kp D H H' → Dk c D ns (t + 4001) H' → ShapeAt H' p ws ls → Good ws ls → ws.length ≤ 60 → ls.length ≤ 4000 → Q (.ref p) H'
abbrev N_l_shape_or_ladder : List Str := ["_law_deck_here", "_law_most", "_law_high"]
def t_l_shape_or_ladder (K : PySem.W.Frag) : TS := (tSeq (tIfS (tTest (tOp rEq (tCall (sp_l_draw K) [] E0 (tCons (tVar 0) (tCons (tC (.int 8)) tNil))) (tC (.int 0)))) (tRet (tCall (sp_l_ladder K) [] E0 (tCons (tVar 0) (tCons (tVar 2) tNil)))) tNext)
    (tRet (tCall (sp_l_shape K) [] E0 (tCons (tVar 0) (tCons (tVar 1) tNil)))))
section
variable {K : PySem.W.Frag} {vs : List V} {H : Hp} {Q : VK} {E : XK}
theorem len_l_shape_or_ladder (h : sp_l_shape_or_ladder K vs H Q E) : vs.length = 3 := by
  obtain ⟨_, _, _, _, _, _, rfl, _⟩ := h
  rfl
theorem pure_l_shape_or_ladder (h : sp_l_shape_or_ladder K vs H Q E) : t_l_shape_or_ladder K { nx := fun _ H' => Q .non H', rt := Q } (start N_l_shape_or_ladder vs) H := by
  obtain ⟨c, D, ns, t, most, high, rfl, dk, m0, m1, h0, h1, ht, k⟩ := h
  refine ⟨_, rfl, c, D, ns, t, 8, rfl, dk, by omega, by decide, by decide, fun v H2 v0 v1 d2 fr2 => ⟨rfl, _, rfl, ite2 (fun _ => ?_) (fun _ => ?_)⟩⟩
  · refine ⟨_, rfl, _, rfl, c, D, ns, t + 1, high, rfl, d2, h0, by omega, by omega, fun p ws ls H3 k3 d3 sh g hl hk => ?_⟩
    have hl2 : ((ws.length : Nat) : Int) ≤ high := hl
    exact k p ws ls H3 ((Kp.fr fr2).trans k3) (d3.le (by omega)) sh g (by omega) hk
  · refine ⟨_, rfl, _, rfl, c, D, ns, t + 1, most, rfl, d2, m0, by omega, by omega, fun p ws ls H3 k3 d3 sh g hl hk => ?_⟩
    have hl2 : ((ws.length : Nat) : Int) ≤ most := hl
    have h60 : ws.length ≤ 60 := by omega
    exact k p ws ls H3 ((Kp.fr fr2).trans k3) (d3.le (by omega)) sh g h60 (Nat.le_trans hk (Nat.le_trans (Nat.mul_le_mul h60 h60) (by decide)))
end
/-! ### answers -/
def AnsAt (H : Hp) (q : Addr) (ans : List (Int × Bool)) : Prop := ∃ as : List Addr, H q = some (.tup (as.map V.ref)) ∧ as.length = ans.length ∧ ∀ (i : Nat) (a : Addr) (e : Int × Bool), as[i]? = some a → ans[i]? = some e → H a = some (.tup [.int e.1, .bl e.2])
theorem AnsAt.mono {H H' : Hp} {q : Addr} {ans : List (Int × Bool)} (h : AnsAt H q ans) (s : ∀ (a : Addr) (xs : List V), H a = some (.tup xs) → H' a = some (.tup xs)) : AnsAt H' q ans := by
  obtain ⟨as, h1, h2, h3⟩ := h
  exact ⟨as, s _ _ h1, h2, fun i a e x y => s _ _ (h3 i a e x y)⟩
def yesL (ans : List (Int × Bool)) : List Int := (ans.filter (·.2)).map (·.1)
theorem mem_yesL {ans : List (Int × Bool)} {v : Int} : v ∈ yesL ans ↔ (v, true) ∈ ans := by
  unfold yesL
  rw [List.mem_map]
  refine ⟨fun ⟨e, he, h⟩ => ?_, fun h => ⟨(v, true), List.mem_filter.mpr ⟨h, rfl⟩, rfl⟩⟩
  obtain ⟨h1, h2⟩ := List.mem_filter.mp he
  obtain ⟨a, b⟩ := e
  cases b
  · cases h2
  · rw [← h]
    exact h1
/-- d tells for each version the least one answered False that it is or that is below it -/
structure Low (ls : List (Int × Int)) (ans : List (Int × Bool)) (S : List (Int × Int)) (d : Int → Option Int) : Prop where
  sound : ∀ v m, d v = some m → (m, false) ∈ ans ∧ Dn ls v m
  base : ∀ u, (u, false) ∈ ans → ∃ m, d u = some m ∧ m ≤ u
  cl : ∀ l ∈ S, ∀ m', d l.2 = some m' → ∃ m, d l.1 = some m ∧ m ≤ m'
theorem Low.reach {ls : List (Int × Int)} {ans : List (Int × Bool)} {d : Int → Option Int} (h : Low ls ans ls d) {v u : Int} (r : Dn ls v u) : (u, false) ∈ ans → ∃ m, d v = some m ∧ m ≤ u := by
  induction r with
  | refl v => exact h.base v
  | step hl r ih =>
    intro hu
    obtain ⟨m', h1, h2⟩ := ih hu
    obtain ⟨m, h3, h4⟩ := h.cl _ hl m' h1
    exact ⟨m, h3, by omega⟩
theorem Low.some_iff {ls : List (Int × Int)} {ans : List (Int × Bool)} {d : Int → Option Int} (h : Low ls ans ls d) (v : Int) : (d v).isSome = true ↔ ∃ u, (u, false) ∈ ans ∧ Dn ls v u := by
  refine ⟨fun e => ?_, fun ⟨u, h1, h2⟩ => ?_⟩
  · obtain ⟨m, hm⟩ := Option.isSome_iff_exists.mp e
    exact ⟨m, h.sound v m hm⟩
  · obtain ⟨m, hm, _⟩ := h.reach h2 h1
    rw [hm]
    rfl
def DictI (kvs : List (Key × V)) (d : Int → Option Int) : Prop := ∀ v : Int, valV kvs (.inl v) = (d v).map V.int
def setF (d : Int → Option Int) (v x : Int) : Int → Option Int := fun w => if w = v then some x else d w
theorem setF_eq {d : Int → Option Int} {v x w : Int} (e : w = v) : setF d v x w = some x := if_pos e
theorem setF_ne {d : Int → Option Int} {v x w : Int} (e : ¬ w = v) : setF d v x w = d w := if_neg e
theorem DictI.put {kvs : List (Key × V)} {d : Int → Option Int} (h : DictI kvs d) (v x : Int) : DictI (putK kvs (.inl v) (.int x)) (setF d v x) := fun w => by
  rw [valV_put]
  by_cases e : w = v
  · rw [if_pos (by rw [e]), setF_eq e]
    rfl
  · rw [if_neg (fun z => e (Sum.inl.inj z)), setF_ne e]
    exact h w
def sp_lowest_lacking (_ : PySem.W.Frag) : Sp := fun vs H Q _ => ∃ (p q : Addr) (ws : List Int) (ls : List (Int × Int)) (ans : List (Int × Bool)), vs = [.ref p, .ref q] ∧ ShapeAt H p ws ls ∧ Good ws ls ∧ ls.length ≤ 10000 ∧ AnsAt H q ans ∧ ans.length ≤ 1000 ∧ (ans.map (·.1)).Nodup ∧
  ∀ (L : Addr) (kvs : List (Key × V)) (d : Int → Option Int) (H' : Hp), Same H H' → H L = none → H' L = some (.dK kvs) → DictI kvs d → Low ls ans ls d → Q (.ref L) H'
def sp_refuse_contrary (_ : PySem.W.Frag) : Sp := fun vs H Q _ => ∃ (p L : Addr) (ns : List Int) (kvs : List (Key × V)), vs = [.ref p, .ref L] ∧ H p = some (.lst (ns.map V.int)) ∧ H L = some (.dK kvs) ∧ (∀ v ∈ ns, valV kvs (.inl v) = none) ∧ ∀ H', Same H H' → Q .non H'
abbrev N_lowest_lacking : List Str := ["shape", "answers", "lowest", "version", "truth", "upper", "lower"]
def t_lowest_lacking (K : PySem.W.Frag) : TS := (tSeq (tAsg (tDc (iTup K (tVar 1)) (gTup K 2 (gCons (gName 3) (gCons (gName 4) gNil))) (tNot (tB (tVar 4))) (tVar 3) (tVar 3) [3, 4]) (gName 2))
    (tSeq (tFor (iTup K (tOp (rIx K) (tVar 0) (tC (.int 1)))) (gTup K 2 (gCons (gName 5) (gCons (gName 6) gNil))) (tIfS (tB (tDIn (tVar 6) (tVar 2))) (sDPut (tVar 2) (tVar 5) (tCB fMin2 (tCons (tDGet (tVar 2) (tVar 6)) (tCons (tDGet2 (tVar 2) (tVar 5) (tVar 5)) tNil)))) tNext))
    (tRet (tVar 2))))
abbrev N_refuse_contrary : List Str := ["yes", "lacking", "upper"]
def t_refuse_contrary (K : PySem.W.Frag) : TS := (tFor (iList K (tCB (rSortedI K) (tCons (tVar 0) tNil))) (gName 2) (tIfS (tB (tDIn (tVar 2) (tVar 1))) tNever tNext))
section
variable {K : PySem.W.Frag} {vs : List V} {H : Hp} {Q : VK} {E : XK}
theorem len_lowest_lacking (h : sp_lowest_lacking K vs H Q E) : vs.length = 2 := by
  obtain ⟨_, _, _, _, _, rfl, _⟩ := h
  rfl
theorem len_refuse_contrary (h : sp_refuse_contrary K vs H Q E) : vs.length = 2 := by
  obtain ⟨_, _, _, _, rfl, _⟩ := h
  rfl
theorem pure_refuse_contrary (h : sp_refuse_contrary K vs H Q E) : t_refuse_contrary K { nx := fun _ H' => Q .non H', rt := Q } (start N_refuse_contrary vs) H := by
  obtain ⟨p, L, ns, kvs, rfl, hp, hL, hn, k⟩ := h
  refine ⟨_, rfl, p, ns, rfl, sqL hp, fun ys S py sy nS => ⟨S, rfl, ⟨_, sqL updS⟩, ?_⟩⟩
  have up : ∀ o, Same H (upd H S o) := fun o b u e => updN (ne_of_none e nS) e
  refine for_list (K := K) (a := S) (xs := ys.map V.int) (fun i σ H' => H' = upd H S (.lst (ys.map V.int)) ∧ ∃ z, σ = [some (.ref p), some (.ref L), z]) ⟨rfl, none, rfl⟩ (fun i σ H' _ ⟨e, _⟩ => by rw [e]; exact sqL updS) ?_ ?_
  · rintro i x σ H' hx ⟨rfl, z, rfl⟩
    rw [List.getElem?_map] at hx
    cases ey : ys[i]? with
    | none => rw [ey] at hx; cases hx
    | some v =>
      rw [ey] at hx
      cases Option.some.inj hx
      have hv := hn v (py.mem_iff.mp (List.mem_of_getElem? ey))
      refine ⟨_, rfl, _, rfl, L, _, rfl, DGet.k (k := Sum.inl v) (up _ _ _ hL), _, rfl, ?_⟩
      rw [hv]
      exact iteF ⟨rfl, _, rfl⟩
  · rintro σ H' ⟨rfl, z, rfl⟩
    exact k _ (up _)
theorem pure_lowest_lacking (h : sp_lowest_lacking K vs H Q E) : t_lowest_lacking K { nx := fun _ H' => Q .non H', rt := Q } (start N_lowest_lacking vs) H := by
  obtain ⟨p, q, ws, ls, ans, rfl, ⟨a0, r, rs, hp, ha0, hr, lk⟩, g, hlz, ⟨as, hq, hal, has⟩, hasz, nd, k⟩ := h
  refine ⟨_, rfl, q, rfl, ⟨_, sqT hq⟩, fun L nL => ?_⟩
  have up : ∀ kvs, Same H (upd H L (.dK kvs)) := fun kvs b o e => updN (ne_of_none e nL) e
  -- {version: version for version, truth in answers if not truth}
  refine dc_tup (K := K) (a := q) (xs := as.map V.ref) (fun i H2 => ∃ (kvs : List (Key × V)) (d : Int → Option Int), H2 = upd H L (.dK kvs) ∧ DictI kvs d ∧ kvs.length ≤ i ∧ ∀ v, d v = if (v, false) ∈ ans.take i then some v else none) ?_ (fun i H2 _ ⟨kvs, d, e, _⟩ => by rw [e]; exact sqT (up _ _ _ hq)) (fun i x H2 hx ⟨kvs, d, e, hd, hkl, hdv⟩ => ?_) (fun H2 ⟨kvs, d, e, hd, hkl, hdv⟩ => ?_)
  · exact ⟨[], fun _ => none, rfl, fun _ => rfl, Nat.le_refl _, fun v => by rw [List.take_zero, if_neg (fun z => nomatch z)]⟩
  · subst e
    rw [List.getElem?_map] at hx
    cases ea : as[i]? with
    | none => rw [ea] at hx; cases hx
    | some a =>
      rw [ea] at hx
      cases Option.some.inj hx
      have hi : i < ans.length := by rw [← hal]; exact (List.getElem?_eq_some_iff.mp ea).1
      have ee : ans[i]? = some ans[i] := List.getElem?_eq_getElem hi
      generalize ans[i] = e at ee
      obtain ⟨v, b⟩ := e
      have hb := up (kvs) _ _ (has i a _ ea ee)
      have tk : ans.take (i + 1) = ans.take i ++ [(v, b)] := take_snoc ee
      refine ⟨a, [.int v, .bl b], rfl, sqT hb, rfl, _, [.bl b], rfl, _, [], rfl, rfl, rfl, _, rfl, _, rfl, ?_⟩
      cases b with
      | true =>
        refine iteF ⟨kvs, d, rfl, hd, by omega, fun w => ?_⟩
        rw [hdv w, tk]
        have : (w, false) ∈ ans.take i ++ [(v, true)] ↔ (w, false) ∈ ans.take i := by
          rw [List.mem_append, List.mem_singleton]
          exact ⟨fun h => h.elim id (fun z => by cases z), Or.inl⟩
        simp only [this]
      | false =>
        refine iteT ⟨_, rfl, _, rfl, kvs, Sum.inl v, rfl, updS, Nat.lt_of_le_of_lt (show kvs.length ≤ 1000 by omega) (by decide), putK kvs (.inl v) (.int v), setF d v v, by rw [upd_upd], hd.put v v, ?_, fun w => ?_⟩
        · exact Nat.le_trans (length_putK _ _ _) (by omega)
        · rw [tk]
          by_cases e : w = v
          · subst e
            rw [setF_eq rfl, if_pos (List.mem_append_right _ (List.mem_singleton.mpr rfl))]
          · rw [setF_ne e, hdv w]
            have : (w, false) ∈ ans.take i ++ [(v, false)] ↔ (w, false) ∈ ans.take i := by
              rw [List.mem_append, List.mem_singleton]
              exact ⟨fun h => h.elim id fun z => absurd (Prod.mk.inj z).1 e, Or.inl⟩
            simp only [this]
  · subst e
    rw [List.length_map, hal, List.take_length] at hdv
    rw [List.length_map, hal] at hkl
    have low0 : Low ls ans [] d := by
      refine ⟨fun v m hm => ?_, fun u hu => ⟨u, by rw [hdv, if_pos hu], Int.le_refl _⟩, fun l hl => nomatch hl⟩
      rw [hdv] at hm
      by_cases hv : (v, false) ∈ ans
      · rw [if_pos hv] at hm
        cases Option.some.inj hm
        exact ⟨hv, .refl v⟩
      · rw [if_neg hv] at hm
        cases hm
    -- for upper, lower in shape[1]
    refine ⟨_, rfl, ixT (up _ _ _ hp) rfl ⟨r, rfl, ⟨_, sqT (up _ _ _ hr)⟩, ?_⟩⟩
    refine for_tup (K := K) (a := r) (xs := rs.map V.ref) (fun i σ H2 => ∃ (kvs : List (Key × V)) (d : Int → Option Int) (z3 z4 z5 z6 : Option V), σ = [some (.ref p), some (.ref q), some (.ref L), z3, z4, z5, z6] ∧ H2 = upd H L (.dK kvs) ∧ DictI kvs d ∧ kvs.length ≤ ans.length + i ∧ Low ls ans (ls.take i) d) ?_ ?_ ?_ ?_
    · exact ⟨kvs, d, none, none, none, none, rfl, rfl, hd, hkl, by rw [List.take_zero]; exact low0⟩
    · rintro i σ H2 _ ⟨kvs, d, _, _, _, _, _, rfl, _⟩
      exact sqT (up _ _ _ hr)
    · rintro i x σ H2 hx ⟨kvs, d, z3, z4, z5, z6, rfl, rfl, hd, hkl, low⟩
      rw [List.getElem?_map] at hx
      cases er : rs[i]? with
      | none => rw [er] at hx; cases hx
      | some b =>
        rw [er] at hx
        cases Option.some.inj hx
        have hi : i < ls.length := by rw [← lk.1]; exact (List.getElem?_eq_some_iff.mp er).1
        have el : ls[i]? = some ls[i] := List.getElem?_eq_getElem hi
        have hlt : ∀ l' ∈ ls.take i, lkLt l' ls[i] := fun l' hl' => by
          obtain ⟨j, hj, e⟩ := List.getElem_of_mem hl'
          rw [List.length_take] at hj
          rw [List.getElem_take] at e
          rw [← e]
          exact List.pairwise_iff_getElem.mp g.lex j i (by omega) hi (by omega)
        generalize ls[i] = l at el hlt
        have hb := up kvs _ _ (lk.2 i b l er el)
        have tk : ls.take (i + 1) = ls.take i ++ [l] := take_snoc el
        have hlm : l ∈ ls := List.mem_of_getElem? el
        obtain ⟨m1, m2, m3⟩ := g.mem l hlm
        refine ⟨b, [.int l.1, .int l.2], rfl, sqT hb, rfl, _, [.int l.2], rfl, _, [], rfl, rfl, ?_⟩
        refine ⟨_, rfl, _, rfl, L, _, rfl, DGet.k (k := Sum.inl l.2) updS, _, rfl, ?_⟩
        rw [hd]
        cases e2 : d l.2 with
        | none =>
          refine iteF ⟨kvs, d, _, _, _, _, rfl, rfl, hd, by omega, low.sound, low.base, fun l' hl' m' hm' => ?_⟩
          rw [tk] at hl'
          rcases List.mem_append.mp hl' with hl' | hl'
          · exact low.cl l' hl' m' hm'
          · cases List.mem_singleton.mp hl'
            rw [e2] at hm'
            cases hm'
        | some m =>
          have g2 : DGet (upd H L (.dK kvs)) L (.int l.2) (some (.int m)) := by
            have := DGet.k (k := Sum.inl l.2) (updS : upd H L (.dK kvs) L = some (.dK kvs))
            rw [hd, e2] at this
            exact this
          refine iteT ⟨_, rfl, _, rfl, L, _, rfl, g2, _, rfl, L, rfl, .inl ⟨kvs, .inl updS⟩, _, rfl, _, rfl, _, DGet.k (k := Sum.inl l.1) updS, ?_⟩
          rw [hd]
          -- the value that is written
          have fin : ∀ o : Int, (∀ m0, d l.1 = some m0 → o = m0) → (d l.1 = none → o = l.1) → ∀ (σ : L2.St) (Dd : Ends),
              (∀ (kvs' : List (Key × V)) (d' : Int → Option Int), DictI kvs' d' → kvs'.length ≤ ans.length + (i + 1) → Low ls ans (ls.take (i + 1)) d' → Dd.nx σ (upd H L (.dK kvs'))) →
              Dd.nx σ (upd (upd H L (.dK kvs)) L (.dK (putK kvs (Sum.inl l.1) (.int (if o < m then o else m))))) := by
            intro o ho1 ho2 σ Dd kd
            rw [upd_upd]
            have le : (if o < m then o else m) ≤ m := by split <;> omega
            refine kd _ (setF d l.1 (if o < m then o else m)) (hd.put _ _) (Nat.le_trans (length_putK _ _ _) (by omega)) ⟨fun v m0 hv => ?_, fun u hu => ?_, fun l' hl' m' hm' => ?_⟩
            · by_cases e : v = l.1
              · rw [setF_eq e] at hv
                cases Option.some.inj hv
                rw [e]
                have s2 := low.sound l.2 m e2
                by_cases hom : o < m
                · rw [if_pos hom]
                  cases e1 : d l.1 with
                  | some m0 =>
                    rw [ho1 m0 e1]
                    exact low.sound _ _ e1
                  | none =>
                    have := ho2 e1
                    have := s2.2.le g
                    omega
                · rw [if_neg hom]
                  exact ⟨s2.1, .step hlm s2.2⟩
              · rw [setF_ne e] at hv
                exact low.sound v m0 hv
            · by_cases e : u = l.1
              · refine ⟨_, setF_eq e, ?_⟩
                have := (low.sound l.2 m e2).2.le g
                omega
              · obtain ⟨m0, h1, h2⟩ := low.base u hu
                exact ⟨m0, by rw [setF_ne e]; exact h1, h2⟩
            · rw [tk] at hl'
              rcases List.mem_append.mp hl' with hl' | hl'
              · have ne2 : ¬ l'.2 = l.1 := fun z => by
                  have h3 := (g.mem l' (List.mem_of_mem_take hl')).2.2
                  have h4 := hlt l' hl'
                  unfold lkLt at h4
                  omega
                rw [setF_ne ne2] at hm'
                obtain ⟨m0, h1, h2⟩ := low.cl l' hl' m' hm'
                by_cases e : l'.1 = l.1
                · refine ⟨_, setF_eq e, ?_⟩
                  have : o = m0 := ho1 m0 (by rw [← e]; exact h1)
                  split <;> omega
                · exact ⟨m0, by rw [setF_ne e]; exact h1, h2⟩
              · cases List.mem_singleton.mp hl'
                have ne2 : ¬ l.2 = l.1 := by omega
                rw [setF_ne ne2] at hm'
                rw [e2] at hm'
                cases Option.some.inj hm'
                exact ⟨_, setF_eq rfl, le⟩
          have hkl2 : kvs.length < sizeLine := Nat.lt_of_le_of_lt (show _ ≤ 20000 by omega) (by decide)
          cases e1 : d l.1 with
          | none =>
            refine ⟨m, l.1, rfl, _, rfl, _, rfl, L, _, rfl, DPut.k (k := Sum.inl l.1) updS hkl2, ?_⟩
            exact fin l.1 (fun m0 h => by rw [e1] at h; cases h) (fun _ => rfl) _ _ fun kvs' d' h1 h2 h3 => ⟨kvs', d', _, _, _, _, rfl, rfl, h1, h2, h3⟩
          | some m0 =>
            refine ⟨m, m0, rfl, _, rfl, _, rfl, L, _, rfl, DPut.k (k := Sum.inl l.1) updS hkl2, ?_⟩
            exact fin m0 (fun m1 h => by rw [e1] at h; exact Option.some.inj h) (fun h => by rw [e1] at h; cases h) _ _ fun kvs' d' h1 h2 h3 => ⟨kvs', d', _, _, _, _, rfl, rfl, h1, h2, h3⟩
    · rintro σ H2 ⟨kvs, d, z3, z4, z5, z6, rfl, rfl, hd, hkl, low⟩
      rw [List.length_map, lk.1, List.take_length] at low
      exact ⟨_, rfl, k L kvs d _ (up _) nL updS hd low⟩
end
end Fw

set_option Elab.async false
set_option linter.all false
set_option maxRecDepth 100000
set_option maxHeartbeats 4000000
namespace Fw
open PySem L2 RZ RT
/-! ### comprehensions that choose -/
def sel (ks : List Bool) (ys : List V) : List V := ((ks.zip ys).filter (·.1)).map (·.2)
theorem sel_map {α : Type} (f : α → Bool) (g : α → V) : ∀ l : List α, sel (l.map f) (l.map g) = (l.filter f).map g
  | [] => rfl
  | x :: r => by
    have ih := sel_map f g r
    unfold sel at ih ⊢
    rw [List.map_cons, List.map_cons, List.zip_cons_cons, List.filter_cons, List.filter_cons]
    cases f x with
    | true =>
      show (g x) :: _ = (g x) :: _
      rw [ih]
    | false => exact ih
theorem sel_snoc {ks : List Bool} {ys : List V} {i : Nat} {b : Bool} {y : V} (hk : ks[i]? = some b) (hy : ys[i]? = some y) : sel (ks.take (i + 1)) (ys.take (i + 1)) = sel (ks.take i) (ys.take i) ++ (if b = true then [y] else []) := by
  have h1 := (List.getElem?_eq_some_iff.mp hk).1
  have h2 := (List.getElem?_eq_some_iff.mp hy).1
  unfold sel
  rw [take_snoc hk, take_snoc hy, List.zip_append (by rw [List.length_take, List.length_take]; omega), List.filter_append, List.map_append]
  cases b <;> rfl
theorem sel_length (ks : List Bool) (ys : List V) : (sel ks ys).length ≤ ys.length := by
  unfold sel
  rw [List.length_map]
  refine Nat.le_trans (List.length_filter_le _ _) ?_
  rw [List.length_zip]
  omega
section
variable {K : PySem.W.Frag} {a : Addr} {xs ys : List V} {ks : List Bool} {g : TG} {tt : TT} {te : TE} {vs : List Nat} {σ : L2.St} {H1 : Hp} {D : Addr} {Qd : Hp → Prop}
/-- [e for x in xs if t], xs a tuple, ys the values, ks whether they are taken -/
theorem lc_filtT (hq : ∀ acc, SqT K (upd H1 D (.lst acc)) a xs) (hl : ys.length = xs.length) (hk : ks.length = xs.length) (hz : xs.length ≤ 100000)
    (hs : ∀ (i : Nat) (x y : V) (b : Bool) (acc : List V) (R : VK) (N : Hp → Prop), xs[i]? = some x → ys[i]? = some y → ks[i]? = some b → (b = true → R y (upd H1 D (.lst acc))) → (b = false → N (upd H1 D (.lst acc))) →
      g x (wipe σ vs) (upd H1 D (.lst acc)) fun σ2 H2 => wipe σ2 vs = wipe σ vs ∧ tt σ2 H2 fun b' H3 => if b' = true then te σ2 H3 R else N H3)
    (hd : Qd (upd H1 D (.lst (sel ks ys)))) :
    ∃ W : Nat → Nat → Hp → Prop, (∃ m, W 0 m (upd H1 D (.lst []))) ∧ ∀ i m H, W i m H →
      ((Itt K a).stop i H ∧ Qd H) ∨ ((Itt K a).go i H ∧ ∃ Nx : Hp → Prop, (∀ H', Nx H' → ∃ m', m' < m ∧ W (i + 1) m' H') ∧ ∀ x H', (Itt K a).yld i H x H' → g x (wipe σ vs) H' fun σ2 H2 => wipe σ2 vs = wipe σ vs ∧ tt σ2 H2 fun b H3 =>
        if b = true then te σ2 H3 fun y H4 => ∃ acc, H4 D = some (.lst acc) ∧ acc.length < sizeLine ∧ Nx (upd H4 D (.lst (acc ++ [y]))) else Nx H3) := by
  refine lc_tup (K := K) (a := a) (xs := xs) (fun i H => H = upd H1 D (.lst (sel (ks.take i) (ys.take i)))) (by rw [List.take_zero, List.take_zero]; rfl) (fun i H _ e => by rw [e]; exact hq _) (fun i x H hx e => ?_) (fun H e => by
    rw [e, List.take_of_length_le (by omega), List.take_of_length_le (by omega)]
    exact hd)
  subst e
  have hi := (List.getElem?_eq_some_iff.mp hx).1
  have hy : ys[i]? = some ys[i] := List.getElem?_eq_getElem (by omega)
  have hkk : ks[i]? = some ks[i] := List.getElem?_eq_getElem (by omega)
  refine hs i x ys[i] ks[i] (sel (ks.take i) (ys.take i)) _ _ hx hy hkk (fun hb => ⟨_, upd_same, Nat.lt_of_le_of_lt (Nat.le_trans (sel_length _ _) (by rw [List.length_take]; omega) : _ ≤ 100000) (by decide), ?_⟩) (fun hb => ?_)
  · rw [upd_upd, sel_snoc hkk hy, if_pos hb]
  · rw [sel_snoc hkk hy, if_neg (by rw [hb]; exact Bool.false_ne_true), List.append_nil]
end
theorem inV_ints (w : Int) : ∀ ns : List Int, inV (.int w) (ns.map V.int) = ns.contains w
  | [] => rfl
  | n :: r => by
    have ih := inV_ints w r
    unfold inV at ih ⊢
    rw [List.map_cons, List.any_cons, ih, List.contains_cons]
    have : eqV (.int n) (.int w) = (w == n) := by
      show (n == w) = (w == n)
      by_cases e : n = w
      · subst e; rfl
      · rw [beq_eq_false_iff_ne.mpr e, beq_eq_false_iff_ne.mpr fun z => e z.symm]
    rw [this]
theorem flat_ints (ns : List Int) : (ns.map V.int).all flatV = true := List.all_eq_true.mpr fun x hx => by
  obtain ⟨n, _, rfl⟩ := List.mem_map.mp hx
  rfl
/-! ### settled -/
def hasB (ls : List (Int × Int)) (ans : List (Int × Bool)) (w : Int) : Bool := (lower ls (yesL ans)).contains w
def lacB (ls : List (Int × Int)) (ans : List (Int × Bool)) (w : Int) : Bool := ans.any fun e => !e.2 && (lower ls [w]).contains e.1
theorem hasB_iff {ws : List Int} {ls : List (Int × Int)} (g : Good ws ls) {ans : List (Int × Bool)} {w : Int} : hasB ls ans w = true ↔ ∃ s, (s, true) ∈ ans ∧ Dn ls s w := by
  unfold hasB
  rw [List.contains_iff_mem, mem_lower g]
  exact ⟨fun ⟨s, h1, h2⟩ => ⟨s, mem_yesL.mp h1, h2⟩, fun ⟨s, h1, h2⟩ => ⟨s, mem_yesL.mpr h1, h2⟩⟩
theorem lacB_iff {ws : List Int} {ls : List (Int × Int)} (g : Good ws ls) {ans : List (Int × Bool)} {w : Int} : lacB ls ans w = true ↔ ∃ u, (u, false) ∈ ans ∧ Dn ls w u := by
  unfold lacB
  rw [List.any_eq_true]
  refine ⟨fun ⟨e, he, h⟩ => ?_, fun ⟨u, hu, d⟩ => ⟨(u, false), hu, ?_⟩⟩
  · obtain ⟨u, b⟩ := e
    rw [Bool.and_eq_true, List.contains_iff_mem, mem_lower g] at h
    obtain ⟨h1, s, hs, d⟩ := h
    cases b
    · rw [List.mem_singleton.mp hs] at d
      exact ⟨u, he, d⟩
    · cases h1
  · rw [Bool.and_eq_true, List.contains_iff_mem, mem_lower g]
    exact ⟨rfl, w, List.mem_singleton.mpr rfl, d⟩
def NotContrary (ls : List (Int × Int)) (ans : List (Int × Bool)) : Prop := ∀ v u, (v, true) ∈ ans → (u, false) ∈ ans → ¬ Dn ls v u
def TripAt (H : Hp) (r : Addr) (x y z : List Int) : Prop := ∃ a b c, H r = some (.tup [.ref a, .ref b, .ref c]) ∧ H a = some (.tup (x.map V.int)) ∧ H b = some (.tup (y.map V.int)) ∧ H c = some (.tup (z.map V.int))
def sp_settled (_ : PySem.W.Frag) : Sp := fun vs H Q _ => ∃ (p q : Addr) (ws : List Int) (ls : List (Int × Int)) (ans : List (Int × Bool)), vs = [.ref p, .ref q] ∧ ShapeAt H p ws ls ∧ Good ws ls ∧ ws.length ≤ 1000 ∧ ls.length ≤ 10000 ∧ AnsAt H q ans ∧ ans.length ≤ 1000 ∧ (ans.map (·.1)).Nodup ∧ NotContrary ls ans ∧
  ∀ (r : Addr) (H' : Hp), Same H H' → H r = none → TripAt H' r (ws.filter (hasB ls ans)) (ws.filter (lacB ls ans)) (ws.filter fun w => !hasB ls ans w && !lacB ls ans w) → Q (.ref r) H'
abbrev N_settled : List Str := ["shape", "answers", "lacking", "yes", "version", "truth", "held", "has", "lacks", "left"]
def t_settled (K : PySem.W.Frag) : TS := (tSeq (tAsg (tCall (sp_lowest_lacking K) [] E0 (tCons (tVar 0) (tCons (tVar 1) tNil))) (gName 2))
    (tSeq (tAsg (tLc (iTup K (tVar 1)) (gTup K 2 (gCons (gName 4) (gCons (gName 5) gNil))) (tB (tVar 5)) (tVar 4) [4, 5]) (gName 3))
    (tSeq (tDrop (tCall (sp_refuse_contrary K) [] E0 (tCons (tVar 3) (tCons (tVar 2) tNil))))
    (tSeq (tAsg (tCall (sp_with_lower K) [] E0 (tCons (tVar 0) (tCons (tVar 3) tNil))) (gName 6))
    (tSeq (tAsg (tLc (iTup K (tOp (rIx K) (tVar 0) (tC (.int 0)))) (gName 4) (tB (tDIn (tVar 4) (tVar 6))) (tVar 4) [4]) (gName 7))
    (tSeq (tAsg (tLc (iTup K (tOp (rIx K) (tVar 0) (tC (.int 0)))) (gName 4) (tB (tDIn (tVar 4) (tVar 2))) (tVar 4) [4]) (gName 8))
    (tSeq (tAsg (tLc (iTup K (tOp (rIx K) (tVar 0) (tC (.int 0)))) (gName 4) (tAnd (tB (tDNotIn (tVar 4) (tVar 6))) (tB (tDNotIn (tVar 4) (tVar 2)))) (tVar 4) [4]) (gName 9))
    (tRet (tTup (tCons (tCB (fTupleOf K) (tCons (tVar 7) tNil)) (tCons (tCB (fTupleOf K) (tCons (tVar 8) tNil)) (tCons (tCB (fTupleOf K) (tCons (tVar 9) tNil)) tNil))))))))))))
section
variable {K : PySem.W.Frag} {vs : List V} {H : Hp} {Q : VK} {E : XK}
theorem len_settled (h : sp_settled K vs H Q E) : vs.length = 2 := by
  obtain ⟨_, _, _, _, _, rfl, _⟩ := h
  rfl
theorem yes_nodup {ans : List (Int × Bool)} (h : (ans.map (·.1)).Nodup) : (yesL ans).Nodup := by
  unfold yesL
  exact h.sublist ((List.filter_sublist).map _)
theorem samNew {H : Hp} {q : Addr} {o : HO} (n : H q = none) : Same H (upd H q o) := fun b u e => updN (ne_of_none e n) e
theorem pure_settled (h : sp_settled K vs H Q E) : t_settled K { nx := fun _ H' => Q .non H', rt := Q } (start N_settled vs) H := by
  obtain ⟨p, q, ws, ls, ans, rfl, sh, g, hwz, hlz, an, hasz, nd, nc, k⟩ := h
  -- lacking = lowest_lacking(shape, answers)
  refine ⟨_, rfl, _, rfl, p, q, ws, ls, ans, rfl, sh, g, hlz, an, hasz, nd, fun L kvs d H1 s1 nL hL hd low => ?_⟩
  have sh1 : ShapeAt H1 p ws ls := sh.mono fun a xs e => s1 _ _ e
  obtain ⟨as, hq1, hal, has⟩ : AnsAt H1 q ans := an.mono fun a xs e => s1 _ _ e
  have dl : ∀ w, (valV kvs (.inl w)).isSome = lacB ls ans w := fun w => by
    rw [hd w, Option.isSome_map, Bool.eq_iff_iff, low.some_iff, lacB_iff g]
  -- yes = [version for version, truth in answers if truth]
  refine ⟨_, rfl, q, rfl, ⟨_, sqT hq1⟩, fun Y nY => ?_⟩
  have sY : ∀ o, Same H1 (upd H1 Y o) := fun o => samNew nY
  have ney : ∀ {i : Nat} {x : V}, (as.map V.ref)[i]? = some x → ∃ (a : Addr) (e : Int × Bool), x = .ref a ∧ as[i]? = some a ∧ ans[i]? = some e ∧ H1 a = some (.tup [.int e.1, .bl e.2]) := fun {i x} hx => by
    rw [List.getElem?_map] at hx
    cases ea : as[i]? with
    | none => rw [ea] at hx; cases hx
    | some a =>
      rw [ea] at hx
      have hi : i < ans.length := by rw [← hal]; exact (List.getElem?_eq_some_iff.mp ea).1
      have ee : ans[i]? = some ans[i] := List.getElem?_eq_getElem hi
      exact ⟨a, _, (Option.some.inj hx).symm, rfl, ee, has i a _ ea ee⟩
  refine lc_filtT (K := K) (a := q) (xs := as.map V.ref) (ys := ans.map fun e => V.int e.1) (ks := ans.map (·.2)) (fun acc => sqT (sY _ _ _ hq1)) (by simp [hal]) (by simp [hal]) (by rw [List.length_map]; omega) (fun i x y b acc R N hx hy hb r n => ?_) ?_
  · obtain ⟨a, e, rfl, ea, ee, ha⟩ := ney hx
    rw [List.getElem?_map, ee] at hy hb
    cases Option.some.inj hy
    have hb' : e.2 = b := Option.some.inj hb
    subst hb'
    refine ⟨a, [.int e.1, .bl e.2], rfl, sqT (sY _ _ _ ha), rfl, _, [.bl e.2], rfl, _, [], rfl, rfl, rfl, _, rfl, _, rfl, ?_⟩
    exact ite2 (fun z => ⟨_, rfl, r z⟩) (fun z => n (Bool.eq_false_iff.mpr z))
  rw [sel_map, show ((ans.filter (·.2)).map fun e => V.int e.1) = (yesL ans).map V.int by unfold yesL; rw [List.map_map]; rfl]
  generalize hH2 : upd H1 Y (.lst ((yesL ans).map V.int)) = H2
  have s2 : Same H1 H2 := by rw [← hH2]; exact sY _
  have hY : H2 Y = some (.lst ((yesL ans).map V.int)) := by rw [← hH2]; exact updS
  -- refuse_contrary(yes, lacking)
  refine ⟨_, rfl, _, rfl, Y, L, yesL ans, kvs, rfl, hY, s2 _ _ hL, fun v hv => ?_, fun H3 s3 => ?_⟩
  · have : (valV kvs (.inl v)).isSome = false := by
      rw [dl, Bool.eq_false_iff]
      intro z
      obtain ⟨u, h1, h2⟩ := (lacB_iff g).mp z
      exact nc v u (mem_yesL.mp hv) h1 h2
    exact Option.isSome_eq_false_iff.mp this |> Option.isNone_iff_eq_none.mp
  have s13 : Same H1 H3 := s2.trans s3
  -- held = with_lower(shape, yes)
  have hyl : (yesL ans).length ≤ 1000 := by
    unfold yesL
    rw [List.length_map]
    exact Nat.le_trans (List.length_filter_le _ _) hasz
  refine ⟨_, rfl, _, rfl, p, Y, ws, ls, yesL ans, rfl, sh1.mono fun a xs e => s13 _ _ e, g, hlz, s3 _ _ hY, yes_nodup nd, hyl, fun F H4 s4 nF hF => ?_⟩
  have s14 : Same H1 H4 := s13.trans s4
  have hL4 : H4 L = some (.dK kvs) := s14 _ _ hL
  obtain ⟨a0, r0, rs, hp4, ha4, hr4, lk4⟩ : ShapeAt H4 p ws ls := sh1.mono fun a xs e => s14 _ _ e
  have intw : ∀ {i : Nat} {x : V}, (ws.map V.int)[i]? = some x → ∃ w, x = .int w ∧ ws[i]? = some w := fun {i x} hx => by
    rw [List.getElem?_map] at hx
    cases e : ws[i]? with
    | none => rw [e] at hx; cases hx
    | some w => rw [e] at hx; exact ⟨w, (Option.some.inj hx).symm, rfl⟩
  -- has
  refine ⟨_, rfl, ixT hp4 rfl ⟨a0, rfl, ⟨_, sqT ha4⟩, fun A nA => ?_⟩⟩
  have sA : ∀ o, Same H4 (upd H4 A o) := fun o => samNew nA
  refine lc_filtT (K := K) (a := a0) (xs := ws.map V.int) (ys := ws.map V.int) (ks := ws.map (hasB ls ans)) (fun acc => sqT (sA _ _ _ ha4)) rfl (by simp) (by rw [List.length_map]; omega) (fun i x y b acc R N hx hy hb r n => ?_) ?_
  · obtain ⟨w, rfl, ew⟩ := intw hx
    cases Option.some.inj (hx.symm.trans hy)
    rw [List.getElem?_map, ew] at hb
    have hb' : hasB ls ans w = b := Option.some.inj hb
    refine ⟨rfl, _, rfl, _, rfl, F, _, rfl, DGet.k (k := Sum.inl w) (sA _ _ _ hF), _, rfl, ?_⟩
    rw [mkS_has]
    show if hasB ls ans w = true then _ else _
    rw [hb']
    exact ite2 (fun z => ⟨_, rfl, r z⟩) (fun z => n (Bool.eq_false_iff.mpr z))
  rw [sel_map]
  generalize hH5 : upd H4 A (.lst ((ws.filter (hasB ls ans)).map V.int)) = H5
  have s5 : Same H4 H5 := by rw [← hH5]; exact sA _
  have hA5 : H5 A = some (.lst ((ws.filter (hasB ls ans)).map V.int)) := by rw [← hH5]; exact updS
  -- lacks
  refine ⟨_, rfl, ixT (s5 _ _ hp4) rfl ⟨a0, rfl, ⟨_, sqT (s5 _ _ ha4)⟩, fun B nB => ?_⟩⟩
  have sB : ∀ o, Same H5 (upd H5 B o) := fun o => samNew nB
  refine lc_filtT (K := K) (a := a0) (xs := ws.map V.int) (ys := ws.map V.int) (ks := ws.map (lacB ls ans)) (fun acc => sqT (sB _ _ _ (s5 _ _ ha4))) rfl (by simp) (by rw [List.length_map]; omega) (fun i x y b acc R N hx hy hb r n => ?_) ?_
  · obtain ⟨w, rfl, ew⟩ := intw hx
    cases Option.some.inj (hx.symm.trans hy)
    rw [List.getElem?_map, ew] at hb
    have hb' : lacB ls ans w = b := Option.some.inj hb
    refine ⟨rfl, _, rfl, _, rfl, L, _, rfl, DGet.k (k := Sum.inl w) (sB _ _ _ (s5 _ _ hL4)), _, rfl, ?_⟩
    rw [dl, hb']
    exact ite2 (fun z => ⟨_, rfl, r z⟩) (fun z => n (Bool.eq_false_iff.mpr z))
  rw [sel_map]
  generalize hH6 : upd H5 B (.lst ((ws.filter (lacB ls ans)).map V.int)) = H6
  have s6 : Same H5 H6 := by rw [← hH6]; exact sB _
  have hB6 : H6 B = some (.lst ((ws.filter (lacB ls ans)).map V.int)) := by rw [← hH6]; exact updS
  have s46 : Same H4 H6 := s5.trans s6
  -- left
  refine ⟨_, rfl, ixT (s46 _ _ hp4) rfl ⟨a0, rfl, ⟨_, sqT (s46 _ _ ha4)⟩, fun C nC => ?_⟩⟩
  have sC : ∀ o, Same H6 (upd H6 C o) := fun o => samNew nC
  refine lc_filtT (K := K) (a := a0) (xs := ws.map V.int) (ys := ws.map V.int) (ks := ws.map fun w => !hasB ls ans w && !lacB ls ans w) (fun acc => sqT (sC _ _ _ (s46 _ _ ha4))) rfl (by simp) (by rw [List.length_map]; omega) (fun i x y b acc R N hx hy hb r n => ?_) ?_
  · obtain ⟨w, rfl, ew⟩ := intw hx
    cases Option.some.inj (hx.symm.trans hy)
    rw [List.getElem?_map, ew] at hb
    have hb' : (!hasB ls ans w && !lacB ls ans w) = b := Option.some.inj hb
    refine ⟨rfl, _, rfl, _, rfl, F, _, rfl, DGet.k (k := Sum.inl w) (sC _ _ _ (s46 _ _ hF)), _, rfl, ?_⟩
    rw [mkS_has]
    show if (!hasB ls ans w) = true then _ else _
    refine ite2 (fun z => ?_) (fun z => ?_)
    · refine ⟨_, rfl, _, rfl, L, _, rfl, DGet.k (k := Sum.inl w) (sC _ _ _ (s46 _ _ hL4)), _, rfl, ?_⟩
      rw [dl]
      rw [z, Bool.true_and] at hb'
      rw [hb']
      exact ite2 (fun z => ⟨_, rfl, r z⟩) (fun z => n (Bool.eq_false_iff.mpr z))
    · rw [Bool.eq_false_iff.mpr z, Bool.false_and] at hb'
      exact iteF (n hb'.symm)
  rw [sel_map]
  generalize hH7 : upd H6 C (.lst ((ws.filter fun w => !hasB ls ans w && !lacB ls ans w).map V.int)) = H7
  have s7 : Same H6 H7 := by rw [← hH7]; exact sC _
  have hC7 : H7 C = some (.lst ((ws.filter fun w => !hasB ls ans w && !lacB ls ans w).map V.int)) := by rw [← hH7]; exact updS
  have hA7 := s7 _ _ (s6 _ _ hA5)
  have hB7 := s7 _ _ hB6
  -- the triple
  refine ⟨_, rfl, A, _, rfl, .inl ⟨sqL hA7, fun a na => ?_⟩⟩
  refine ⟨_, rfl, B, _, rfl, .inl ⟨sqL (samNew na _ _ hB7), fun b nb => ?_⟩⟩
  refine ⟨_, rfl, C, _, rfl, .inl ⟨sqL (samNew nb _ _ (samNew na _ _ hC7)), fun c nc' => ⟨by show (3 : Nat) ≤ sizeLine; decide, fun r nr => ?_⟩⟩⟩
  refine k r _ ?_ ?_ ⟨a, b, c, updS, ?_, ?_, ?_⟩
  · exact (((s1.trans s14).trans s46).trans s7).trans (((samNew na).trans (samNew nb)).trans ((samNew nc').trans (samNew nr)))
  · exact (((s1.trans s14).trans s46).trans s7).free ((samNew na).free ((samNew nb).free ((samNew nc').free nr)))
  · exact samNew nr _ _ (samNew nc' _ _ (samNew nb _ _ updS))
  · exact samNew nr _ _ (samNew nc' _ _ updS)
  · exact samNew nr _ _ updS
end
end Fw

set_option Elab.async false
set_option linter.all false
set_option maxRecDepth 100000
set_option maxHeartbeats 4000000
namespace Fw
open PySem PySem.Spec PyProof.Rows L2
section
variable {X : Cx} {e : Expr} {es : List Expr} {ta : TA} {p1 p2 pos : Pos} {x : Str} {CH : Addr}
/-- what a class of the text must say, so that C.__init__ is ValueError's -/
structure HeirC (K : PySem.W.Frag) (CH : Addr) : Prop where
  rd : PySem.W.readsIn K CH (.type "type") = true
  ga : PySem.W.specialIn K (.ref CH) "__getattribute__" = some (some (.builtin "type.__getattribute__"))
  ty : PySem.W.typeIn K (.ref CH) = some (.type "type")
  vi : PySem.W.findCls K (.ref CH) (.type "type") "__init__" = some (.val (.builtin "ValueError.__init__"))
def heirB (K : PySem.W.Frag) (CH : Addr) : Bool := PySem.W.readsIn K CH (.type "type") && (decide (PySem.W.specialIn K (.ref CH) "__getattribute__" = some (some (.builtin "type.__getattribute__"))) && (decide (PySem.W.typeIn K (.ref CH) = some (.type "type")) &&
  match PySem.W.findCls K (.ref CH) (.type "type") "__init__" with
  | some (.val (.builtin z)) => decide (z = "ValueError.__init__")
  | _ => false))
theorem heirB_ok {K : PySem.W.Frag} {CH : Addr} (h : heirB K CH = true) : HeirC K CH := by
  unfold heirB at h
  obtain ⟨h1, h⟩ := Bool.and_eq_true_iff.mp h
  obtain ⟨h2, h⟩ := Bool.and_eq_true_iff.mp h
  obtain ⟨h3, h4⟩ := Bool.and_eq_true_iff.mp h
  refine ⟨h1, of_decide_eq_true h2, of_decide_eq_true h3, ?_⟩
  split at h4
  · rename_i z q
    rw [q, of_decide_eq_true h4]
  · cases h4
/-- Base.__init__(self, ..), Base a class of the text over ValueError -/
theorem pe_heir {pl : Sem Bool} (hg : Gl X x) (hm : X.mg x = some (.ref CH)) (R : HeirC X.K CH) (args : PA X (e :: es) ta) 
    (comes : eval (.Call (.Attribute (.Name x p1) "__init__" p2) (e :: es) [] pos) X.env = (do
      let cv ← eval (.Name x p1) X.env
      standAt p2.atName
      let (fn, ahead) ← holding [cv] (getMethod cv "__init__" pl)
      callWith pos fn ahead (backTo pos (starEach (e :: es) X.env)) (backToKw pos (keywordEach [] X.env))) := by rfl) (dbg : (x == ("__debug__" : Str)) = false := by decide)
    (fst : starEach (e :: es) X.env = (false, eval e X.env) :: starEach es X.env := by rfl) (flat : (backTo pos (starEach es X.env)).any (·.1) = false := by rfl) : PE X (.Call (.Attribute (.Name x p1) "__init__" p2) (e :: es) [] pos) (tVeI X.K ta) := by
  refine ⟨fun pins s σ H Q inv rd => ?_⟩
  refine PySem.W.methodCall_KW (ld_glob inv hg hm ?_ dbg) comes
  obtain ⟨m, fr⟩ := inv.fr
  refine PySem.W.method_of_cls fr inv.ok.mod.kin R.ga (PySem.W.cls_val fr inv.ok.mod.kin R.ty R.rd R.vi (by decide +kernel) ?_)
  show wpAny _ _ (callWith pos (Value.builtin "ValueError.__init__") [] (backTo pos (starEach (e :: es) X.env)) [])
    _ _ _
  refine PyProof.Rows.callWith_method1 (thn (args.run pos pins _ σ H _ (inv.tok _) rd)
    fun us s1 ⟨vs, H1, inv1, rel, self, C, more, same, few, oex, at_, q⟩ => ?_) fst flat
  subst same
  cases rel with
  | @cons _ u0 _ ur r0 rm =>
    obtain rfl : u0 = Value.ref self := r0
    have n : ur.length ≤ sizeLine := by
      rw [← Paired.length rm, sizeLine_eq]
      omega
    exact oinit_ok oex inv1 at_ n fun s2 inv2 => ⟨.non, H1, inv2, rfl, q⟩
/-- the class at C is one of the text over ValueError, with fields of its own: as a Bool -/
def oexB (K : PySem.W.Frag) (C : Addr) : Bool := (match K.lookup C with
  | some ⟨.type "type", _, .cls cd, sl⟩ => (match cd.mro, sl.toList with
    | .ref me :: up, [_, _, _, _, some (.builtin nw), _] => decide (me = C) && (decide (nw = "ValueError.__new__") && (cd.hasDict && (!cd.hasDel && PySem.HandSPX.refsVE up)))
    | _, _ => false)
  | _ => false) && (decide (PySem.W.findIn K (.ref C) "__setattr__" = some (some (.builtin "object.__setattr__"))) && (decide (PySem.W.subIn K (.ref C) (.type "BaseException") = some true) && (decide (PySem.W.typeIn K (.ref C) = some (.type "type")) && PySem.W.keepIn K (.ref C))))
theorem oexB_ok {K : PySem.W.Frag} {C : Addr} (h : oexB K C = true) : OexC K C := by
  unfold oexB at h
  obtain ⟨h1, h⟩ := Bool.and_eq_true_iff.mp h
  obtain ⟨h2, h⟩ := Bool.and_eq_true_iff.mp h
  obtain ⟨h3, h⟩ := Bool.and_eq_true_iff.mp h
  obtain ⟨h4, h5⟩ := Bool.and_eq_true_iff.mp h
  refine ⟨?_, of_decide_eq_true h2, of_decide_eq_true h3, of_decide_eq_true h4, h5⟩
  split at h1
  · rename_i dd cd sl ho
    split at h1
    · rename_i me up k0 k1 k2 k3 nw k5 em es
      obtain ⟨g1, h1⟩ := Bool.and_eq_true_iff.mp h1
      obtain ⟨g2, h1⟩ := Bool.and_eq_true_iff.mp h1
      obtain ⟨g3, h1⟩ := Bool.and_eq_true_iff.mp h1
      obtain ⟨g4, g5⟩ := Bool.and_eq_true_iff.mp h1
      have q1 := of_decide_eq_true g1
      have q2 := of_decide_eq_true g2
      have q4 : cd.hasDel = false := by
        cases z : cd.hasDel with
        | false => rfl
        | true => rw [z] at g4; cases g4
      obtain ⟨c1, c2, c3, c4, c5, c6, c7, c8, c9, c10, c11⟩ := cd
      dsimp only at em g3 q4
      subst em g3 q4 q1 q2
      have eS : sl = #[k0, k1, k2, k3, some (.builtin "ValueError.__new__"), k5] := by
        cases sl with
        | mk l => exact congrArg Array.mk es
      subst eS
      exact ⟨_, _, _, _, _, _, _, _, _, _, _, _, _, _, _, ho, g5⟩
    · cases h1
  · cases h1
end
end Fw

set_option Elab.async false
set_option linter.all false
set_option maxRecDepth 100000
set_option maxHeartbeats 4000000
namespace Fw
open PySem L2 RZ RT
def tRaiseO (E : XK) (C : Addr) (sp : Sp) (ta : TA) : TS := fun _ σ H => tMkO C sp [] ta σ H E
def sp_Contrary_init (K : PySem.W.Frag) : Sp := fun vs H Q _ => ∃ (a C : Addr) (u l : V), vs = [.ref a, u, l] ∧ OexC K C ∧ PySem.W.findIn K (.ref C) "upper" = some none ∧ PySem.W.findIn K (.ref C) "lower" = some none ∧ H a = some (exo a C none) ∧
  ∀ d, H d = none → d ≠ a → Q .non (upd (upd (upd H d (exd d [("upper", u)])) a (exo a C (some d))) d (exd d [("lower", l), ("upper", u)]))
abbrev N_Contrary_init : List Str := ["self", "upper", "lower"]
def t_Contrary_init (K : PySem.W.Frag) : TS := (tSeq (tDrop (tVeI K (tCons (tVar 0) (tCons (tC (.str "a version below a held one is answered as lacking")) tNil))))
    (tSeq (tOst K "upper" (tVar 0) (tVar 1))
    (tOst K "lower" (tVar 0) (tVar 2))))
theorem len_Contrary_init {K : PySem.W.Frag} {vs : List V} {H : Hp} {Q : VK} {E : XK} (h : sp_Contrary_init K vs H Q E) : vs.length = 3 := by
  obtain ⟨_, _, _, _, rfl, _⟩ := h
  rfl
theorem pure_Contrary_init {K : PySem.W.Frag} {vs : List V} {H : Hp} {Q : VK} {E : XK} (h : sp_Contrary_init K vs H Q E) : t_Contrary_init K { nx := fun _ H' => Q .non H', rt := Q } (start N_Contrary_init vs) H := by
  obtain ⟨a, C, u, l, rfl, oe, n1, n2, ha, k⟩ := h
  refine ⟨_, rfl, a, C, _, rfl, (by show (1 : Nat) ≤ 1000; decide), oe, ha, ?_⟩
  refine ⟨_, rfl, _, rfl, a, C, rfl, oe, n1, .inl ⟨ha, fun d nd hd => ?_⟩⟩
  refine ⟨_, rfl, _, rfl, a, C, rfl, oe, n2, .inr ⟨d, _, updS, updN hd updS, (by show (1 : Nat) ≤ 900; decide), k d nd hd⟩⟩
/-! ### refuse_contrary, also where it refuses -/
structure ContraryC (K : PySem.W.Frag) : Prop where
  oex : OexC K (He.ga K "Contrary")
  up : PySem.W.findIn K (.ref (He.ga K "Contrary")) "upper" = some none
  lo : PySem.W.findIn K (.ref (He.ga K "Contrary")) "lower" = some none
def sp_refuseX (K : PySem.W.Frag) : Sp := fun vs H Q E => ∃ (p L : Addr) (ns : List Int) (kvs : List (Key × V)), vs = [.ref p, .ref L] ∧ H p = some (.lst (ns.map V.int)) ∧ H L = some (.dK kvs) ∧ ContraryC K ∧ ((∀ v ∈ ns, valV kvs (.inl v) = none) → ∀ H', Same H H' → Q .non H') ∧
  ∀ (u : Int) (x : V), u ∈ ns → valV kvs (.inl u) = some x → (∀ v ∈ ns, v < u → valV kvs (.inl v) = none) → ∀ d H', Same H H' → H d = none → H' d = some (.xd [("lower", x), ("upper", .int u)]) → E (.ref (He.ga K "Contrary")) (some d) H'
def t_refuseX (K : PySem.W.Frag) (E : XK) : TS := (tFor (iList K (tCB (rSortedI K) (tCons (tVar 0) tNil))) (gName 2) (tIfS (tB (tDIn (tVar 2) (tVar 1))) (tRaiseO E (He.ga K "Contrary") (sp_Contrary_init K) (tCons (tVar 2) (tCons (tDGet (tVar 1) (tVar 2)) tNil))) tNext))
theorem len_refuseX {K : PySem.W.Frag} {vs : List V} {H : Hp} {Q : VK} {E : XK} (h : sp_refuseX K vs H Q E) : vs.length = 2 := by
  obtain ⟨_, _, _, _, rfl, _⟩ := h
  rfl
theorem pure_refuseX {K : PySem.W.Frag} {vs : List V} {H : Hp} {Q : VK} {E : XK} (h : sp_refuseX K vs H Q E) : t_refuseX K E { nx := fun _ H' => Q .non H', rt := Q } (start N_refuse_contrary vs) H := by
  obtain ⟨p, L, ns, kvs, rfl, hp, hL, cc, ky, kn⟩ := h
  refine ⟨_, rfl, p, ns, rfl, sqL hp, fun ys S py sy nS => ⟨S, rfl, ⟨_, sqL updS⟩, ?_⟩⟩
  have up : ∀ o, Same H (upd H S o) := fun o b u e => updN (ne_of_none e nS) e
  refine for_list (K := K) (a := S) (xs := ys.map V.int) (fun i σ H' => H' = upd H S (.lst (ys.map V.int)) ∧ (∃ z, σ = [some (.ref p), some (.ref L), z]) ∧ ∀ j v, j < i → ys[j]? = some v → valV kvs (.inl v) = none) ⟨rfl, ⟨none, rfl⟩, fun j v hj => absurd hj (Nat.not_lt_zero _)⟩ (fun i σ H' _ ⟨e, _⟩ => by rw [e]; exact sqL updS) ?_ ?_
  · rintro i x σ H' hx ⟨rfl, ⟨z, rfl⟩, hno⟩
    rw [List.getElem?_map] at hx
    cases ey : ys[i]? with
    | none => rw [ey] at hx; cases hx
    | some v =>
      rw [ey] at hx
      cases Option.some.inj hx
      have hvn : v ∈ ns := py.mem_iff.mp (List.mem_of_getElem? ey)
      refine ⟨_, rfl, _, rfl, L, _, rfl, DGet.k (k := Sum.inl v) (up _ _ _ hL), _, rfl, ?_⟩
      cases hv : valV kvs (.inl v) with
      | none =>
        refine iteF ⟨rfl, ⟨_, rfl⟩, fun j u hj hu => ?_⟩
        by_cases e : j = i
        · subst e
          rw [ey] at hu
          cases Option.some.inj hu
          exact hv
        · exact hno j u (by omega) hu
      | some x =>
        refine ⟨_, rfl, _, rfl, _, rfl, L, x, rfl, ?_, (by show (2 : Nat) ≤ 1000; decide), fun a na => ?_⟩
        · have := DGet.k (k := Sum.inl v) (up (.lst (ys.map V.int)) _ _ hL)
          rw [hv] at this
          exact this
        refine ⟨a, _, .int v, x, rfl, cc.oex, cc.up, cc.lo, updS, fun d nd hd => ⟨rfl, d, _, updN hd.symm updS, updS, ?_, ?_⟩⟩
        · rw [upd_ne hd] at nd
          exact nd
        · rw [upd_ne hd] at nd
          have ndH : H d = none := by
            cases q : H d with
            | none => rfl
            | some o => rw [up _ _ _ q] at nd; cases nd
          refine kn v x hvn hv (fun u hu hlt => ?_) d _ (fun b o e => ?_) ndH updS
          · obtain ⟨j, hj, ej⟩ := List.getElem_of_mem (py.mem_iff.mpr hu)
            have hji : j < i := by
              obtain ⟨hi, ei⟩ := List.getElem?_eq_some_iff.mp ey
              rcases Nat.lt_or_ge j i with q | q
              · exact q
              · exfalso
                rcases Nat.lt_or_ge i j with q2 | q2
                · have := List.pairwise_iff_getElem.mp sy i j hi hj q2
                  rw [ei, ej] at this
                  omega
                · have e3 : i = j := by omega
                  subst e3
                  rw [ei] at ej
                  omega
            exact hno j u hji (List.getElem?_eq_some_iff.mpr ⟨hj, ej⟩)
          · have b1 : b ≠ d := ne_of_none e ndH
            have b2 : b ≠ a := fun z => by
              rw [← z, up _ _ _ e] at na
              cases na
            rw [upd_ne b1, del_ne b2, upd_ne b1, upd_ne b2, upd_ne b1, upd_ne b2]
            exact up _ _ _ e
  · rintro σ H' ⟨rfl, ⟨z, rfl⟩, hno⟩
    refine ky (fun v hv => ?_) _ (up _)
    obtain ⟨j, hj, ej⟩ := List.getElem_of_mem (py.mem_iff.mpr hv)
    exact hno j v (by rw [List.length_map]; exact hj) (List.getElem?_eq_some_iff.mpr ⟨hj, ej⟩)
/-! ### settled, also where the answers are contrary -/
def Clash (ls : List (Int × Int)) (ans : List (Int × Bool)) (u m : Int) : Prop := (u, true) ∈ ans ∧ (m, false) ∈ ans ∧ Dn ls u m
def sp_settledX (K : PySem.W.Frag) : Sp := fun vs H Q E => ∃ (p q : Addr) (ws : List Int) (ls : List (Int × Int)) (ans : List (Int × Bool)), vs = [.ref p, .ref q] ∧ ShapeAt H p ws ls ∧ Good ws ls ∧ ws.length ≤ 1000 ∧ ls.length ≤ 10000 ∧ AnsAt H q ans ∧ ans.length ≤ 1000 ∧ (ans.map (·.1)).Nodup ∧ ContraryC K ∧
  (NotContrary ls ans → ∀ (r : Addr) (H' : Hp), Same H H' → H r = none → TripAt H' r (ws.filter (hasB ls ans)) (ws.filter (lacB ls ans)) (ws.filter fun w => !hasB ls ans w && !lacB ls ans w) → Q (.ref r) H') ∧
  ∀ u m : Int, (u, true) ∈ ans → (m, false) ∈ ans → Dn ls u m → (∀ v y, (v, true) ∈ ans → (y, false) ∈ ans → Dn ls v y → u < v ∨ (u = v ∧ m ≤ y)) → ∀ d H', Same H H' → H d = none → H' d = some (.xd [("lower", .int m), ("upper", .int u)]) → E (.ref (He.ga K "Contrary")) (some d) H'
def t_settledX (K : PySem.W.Frag) (E : XK) : TS := (tSeq (tAsg (tCall (sp_lowest_lacking K) [] E0 (tCons (tVar 0) (tCons (tVar 1) tNil))) (gName 2))
    (tSeq (tAsg (tLc (iTup K (tVar 1)) (gTup K 2 (gCons (gName 4) (gCons (gName 5) gNil))) (tB (tVar 5)) (tVar 4) [4, 5]) (gName 3))
    (tSeq (tDrop (tCallS (sp_refuseX K) (fun _ => E) (tCons (tVar 3) (tCons (tVar 2) tNil))))
    (tSeq (tAsg (tCall (sp_with_lower K) [] E0 (tCons (tVar 0) (tCons (tVar 3) tNil))) (gName 6))
    (tSeq (tAsg (tLc (iTup K (tOp (rIx K) (tVar 0) (tC (.int 0)))) (gName 4) (tB (tDIn (tVar 4) (tVar 6))) (tVar 4) [4]) (gName 7))
    (tSeq (tAsg (tLc (iTup K (tOp (rIx K) (tVar 0) (tC (.int 0)))) (gName 4) (tB (tDIn (tVar 4) (tVar 2))) (tVar 4) [4]) (gName 8))
    (tSeq (tAsg (tLc (iTup K (tOp (rIx K) (tVar 0) (tC (.int 0)))) (gName 4) (tAnd (tB (tDNotIn (tVar 4) (tVar 6))) (tB (tDNotIn (tVar 4) (tVar 2)))) (tVar 4) [4]) (gName 9))
    (tRet (tTup (tCons (tCB (fTupleOf K) (tCons (tVar 7) tNil)) (tCons (tCB (fTupleOf K) (tCons (tVar 8) tNil)) (tCons (tCB (fTupleOf K) (tCons (tVar 9) tNil)) tNil))))))))))))
section
variable {K : PySem.W.Frag} {vs : List V} {H : Hp} {Q : VK} {E : XK}
theorem len_settledX (h : sp_settledX K vs H Q E) : vs.length = 2 := by
  obtain ⟨_, _, _, _, _, rfl, _⟩ := h
  rfl
theorem pure_settledX (h : sp_settledX K vs H Q E) : t_settledX K E { nx := fun _ H' => Q .non H', rt := Q } (start N_settled vs) H := by
  obtain ⟨p, q, ws, ls, ans, rfl, sh, g, hwz, hlz, an, hasz, nd, cc, ky, kn⟩ := h
  -- lacking = lowest_lacking(shape, answers)
  refine ⟨_, rfl, _, rfl, p, q, ws, ls, ans, rfl, sh, g, hlz, an, hasz, nd, fun L kvs d H1 s1 nL hL hd low => ?_⟩
  have sh1 : ShapeAt H1 p ws ls := sh.mono fun a xs e => s1 _ _ e
  obtain ⟨as, hq1, hal, has⟩ : AnsAt H1 q ans := an.mono fun a xs e => s1 _ _ e
  have dl : ∀ w, (valV kvs (.inl w)).isSome = lacB ls ans w := fun w => by
    rw [hd w, Option.isSome_map, Bool.eq_iff_iff, low.some_iff, lacB_iff g]
  -- yes = [version for version, truth in answers if truth]
  refine ⟨_, rfl, q, rfl, ⟨_, sqT hq1⟩, fun Y nY => ?_⟩
  have sY : ∀ o, Same H1 (upd H1 Y o) := fun o => samNew nY
  have ney : ∀ {i : Nat} {x : V}, (as.map V.ref)[i]? = some x → ∃ (a : Addr) (e : Int × Bool), x = .ref a ∧ as[i]? = some a ∧ ans[i]? = some e ∧ H1 a = some (.tup [.int e.1, .bl e.2]) := fun {i x} hx => by
    rw [List.getElem?_map] at hx
    cases ea : as[i]? with
    | none => rw [ea] at hx; cases hx
    | some a =>
      rw [ea] at hx
      have hi : i < ans.length := by rw [← hal]; exact (List.getElem?_eq_some_iff.mp ea).1
      have ee : ans[i]? = some ans[i] := List.getElem?_eq_getElem hi
      exact ⟨a, _, (Option.some.inj hx).symm, rfl, ee, has i a _ ea ee⟩
  refine lc_filtT (K := K) (a := q) (xs := as.map V.ref) (ys := ans.map fun e => V.int e.1) (ks := ans.map (·.2)) (fun acc => sqT (sY _ _ _ hq1)) (by simp [hal]) (by simp [hal]) (by rw [List.length_map]; omega) (fun i x y b acc R N hx hy hb r n => ?_) ?_
  · obtain ⟨a, e, rfl, ea, ee, ha⟩ := ney hx
    rw [List.getElem?_map, ee] at hy hb
    cases Option.some.inj hy
    have hb' : e.2 = b := Option.some.inj hb
    subst hb'
    refine ⟨a, [.int e.1, .bl e.2], rfl, sqT (sY _ _ _ ha), rfl, _, [.bl e.2], rfl, _, [], rfl, rfl, rfl, _, rfl, _, rfl, ?_⟩
    exact ite2 (fun z => ⟨_, rfl, r z⟩) (fun z => n (Bool.eq_false_iff.mpr z))
  rw [sel_map, show ((ans.filter (·.2)).map fun e => V.int e.1) = (yesL ans).map V.int by unfold yesL; rw [List.map_map]; rfl]
  generalize hH2 : upd H1 Y (.lst ((yesL ans).map V.int)) = H2
  have s2 : Same H1 H2 := by rw [← hH2]; exact sY _
  have hY : H2 Y = some (.lst ((yesL ans).map V.int)) := by rw [← hH2]; exact updS
  -- refuse_contrary(yes, lacking)
  refine ⟨_, rfl, _, rfl, Y, L, yesL ans, kvs, rfl, hY, s2 _ _ hL, cc, fun hnone H3 s3 => ?_, fun u x hu hx hmin dd H3 s3 ndd hdd => ?_⟩
  rotate_left
  · rw [hd u] at hx
    cases em : d u with
    | none => rw [em] at hx; cases hx
    | some m =>
      rw [em] at hx
      cases Option.some.inj hx
      obtain ⟨m1, m2⟩ := low.sound u m em
      refine kn u m (mem_yesL.mp hu) m1 m2 (fun v y hv hy dn => ?_) dd H3 ((s1.trans s2).trans s3) ((s1.trans s2).free ndd) hdd
      obtain ⟨w, hw, hwy⟩ := low.reach dn hy
      rcases Int.lt_trichotomy u v with q1 | q1 | q1
      · exact .inl q1
      · subst q1
        rw [em] at hw
        cases Option.some.inj hw
        exact .inr ⟨rfl, hwy⟩
      · have := hmin v (mem_yesL.mpr hv) q1
        rw [hd v, hw] at this
        cases this
  have nc : NotContrary ls ans := fun v u hv hu dn => by
    have := hnone v (mem_yesL.mpr hv)
    obtain ⟨w, hw, _⟩ := low.reach dn hu
    rw [hd v, hw] at this
    cases this
  have k := ky nc
  have s13 : Same H1 H3 := s2.trans s3
  -- held = with_lower(shape, yes)
  have hyl : (yesL ans).length ≤ 1000 := by
    unfold yesL
    rw [List.length_map]
    exact Nat.le_trans (List.length_filter_le _ _) hasz
  refine ⟨_, rfl, _, rfl, p, Y, ws, ls, yesL ans, rfl, sh1.mono fun a xs e => s13 _ _ e, g, hlz, s3 _ _ hY, yes_nodup nd, hyl, fun F H4 s4 nF hF => ?_⟩
  have s14 : Same H1 H4 := s13.trans s4
  have hL4 : H4 L = some (.dK kvs) := s14 _ _ hL
  obtain ⟨a0, r0, rs, hp4, ha4, hr4, lk4⟩ : ShapeAt H4 p ws ls := sh1.mono fun a xs e => s14 _ _ e
  have intw : ∀ {i : Nat} {x : V}, (ws.map V.int)[i]? = some x → ∃ w, x = .int w ∧ ws[i]? = some w := fun {i x} hx => by
    rw [List.getElem?_map] at hx
    cases e : ws[i]? with
    | none => rw [e] at hx; cases hx
    | some w => rw [e] at hx; exact ⟨w, (Option.some.inj hx).symm, rfl⟩
  -- has
  refine ⟨_, rfl, ixT hp4 rfl ⟨a0, rfl, ⟨_, sqT ha4⟩, fun A nA => ?_⟩⟩
  have sA : ∀ o, Same H4 (upd H4 A o) := fun o => samNew nA
  refine lc_filtT (K := K) (a := a0) (xs := ws.map V.int) (ys := ws.map V.int) (ks := ws.map (hasB ls ans)) (fun acc => sqT (sA _ _ _ ha4)) rfl (by simp) (by rw [List.length_map]; omega) (fun i x y b acc R N hx hy hb r n => ?_) ?_
  · obtain ⟨w, rfl, ew⟩ := intw hx
    cases Option.some.inj (hx.symm.trans hy)
    rw [List.getElem?_map, ew] at hb
    have hb' : hasB ls ans w = b := Option.some.inj hb
    refine ⟨rfl, _, rfl, _, rfl, F, _, rfl, DGet.k (k := Sum.inl w) (sA _ _ _ hF), _, rfl, ?_⟩
    rw [mkS_has]
    show if hasB ls ans w = true then _ else _
    rw [hb']
    exact ite2 (fun z => ⟨_, rfl, r z⟩) (fun z => n (Bool.eq_false_iff.mpr z))
  rw [sel_map]
  generalize hH5 : upd H4 A (.lst ((ws.filter (hasB ls ans)).map V.int)) = H5
  have s5 : Same H4 H5 := by rw [← hH5]; exact sA _
  have hA5 : H5 A = some (.lst ((ws.filter (hasB ls ans)).map V.int)) := by rw [← hH5]; exact updS
  -- lacks
  refine ⟨_, rfl, ixT (s5 _ _ hp4) rfl ⟨a0, rfl, ⟨_, sqT (s5 _ _ ha4)⟩, fun B nB => ?_⟩⟩
  have sB : ∀ o, Same H5 (upd H5 B o) := fun o => samNew nB
  refine lc_filtT (K := K) (a := a0) (xs := ws.map V.int) (ys := ws.map V.int) (ks := ws.map (lacB ls ans)) (fun acc => sqT (sB _ _ _ (s5 _ _ ha4))) rfl (by simp) (by rw [List.length_map]; omega) (fun i x y b acc R N hx hy hb r n => ?_) ?_
  · obtain ⟨w, rfl, ew⟩ := intw hx
    cases Option.some.inj (hx.symm.trans hy)
    rw [List.getElem?_map, ew] at hb
    have hb' : lacB ls ans w = b := Option.some.inj hb
    refine ⟨rfl, _, rfl, _, rfl, L, _, rfl, DGet.k (k := Sum.inl w) (sB _ _ _ (s5 _ _ hL4)), _, rfl, ?_⟩
    rw [dl, hb']
    exact ite2 (fun z => ⟨_, rfl, r z⟩) (fun z => n (Bool.eq_false_iff.mpr z))
  rw [sel_map]
  generalize hH6 : upd H5 B (.lst ((ws.filter (lacB ls ans)).map V.int)) = H6
  have s6 : Same H5 H6 := by rw [← hH6]; exact sB _
  have hB6 : H6 B = some (.lst ((ws.filter (lacB ls ans)).map V.int)) := by rw [← hH6]; exact updS
  have s46 : Same H4 H6 := s5.trans s6
  -- left
  refine ⟨_, rfl, ixT (s46 _ _ hp4) rfl ⟨a0, rfl, ⟨_, sqT (s46 _ _ ha4)⟩, fun C nC => ?_⟩⟩
  have sC : ∀ o, Same H6 (upd H6 C o) := fun o => samNew nC
  refine lc_filtT (K := K) (a := a0) (xs := ws.map V.int) (ys := ws.map V.int) (ks := ws.map fun w => !hasB ls ans w && !lacB ls ans w) (fun acc => sqT (sC _ _ _ (s46 _ _ ha4))) rfl (by simp) (by rw [List.length_map]; omega) (fun i x y b acc R N hx hy hb r n => ?_) ?_
  · obtain ⟨w, rfl, ew⟩ := intw hx
    cases Option.some.inj (hx.symm.trans hy)
    rw [List.getElem?_map, ew] at hb
    have hb' : (!hasB ls ans w && !lacB ls ans w) = b := Option.some.inj hb
    refine ⟨rfl, _, rfl, _, rfl, F, _, rfl, DGet.k (k := Sum.inl w) (sC _ _ _ (s46 _ _ hF)), _, rfl, ?_⟩
    rw [mkS_has]
    show if (!hasB ls ans w) = true then _ else _
    refine ite2 (fun z => ?_) (fun z => ?_)
    · refine ⟨_, rfl, _, rfl, L, _, rfl, DGet.k (k := Sum.inl w) (sC _ _ _ (s46 _ _ hL4)), _, rfl, ?_⟩
      rw [dl]
      rw [z, Bool.true_and] at hb'
      rw [hb']
      exact ite2 (fun z => ⟨_, rfl, r z⟩) (fun z => n (Bool.eq_false_iff.mpr z))
    · rw [Bool.eq_false_iff.mpr z, Bool.false_and] at hb'
      exact iteF (n hb'.symm)
  rw [sel_map]
  generalize hH7 : upd H6 C (.lst ((ws.filter fun w => !hasB ls ans w && !lacB ls ans w).map V.int)) = H7
  have s7 : Same H6 H7 := by rw [← hH7]; exact sC _
  have hC7 : H7 C = some (.lst ((ws.filter fun w => !hasB ls ans w && !lacB ls ans w).map V.int)) := by rw [← hH7]; exact updS
  have hA7 := s7 _ _ (s6 _ _ hA5)
  have hB7 := s7 _ _ hB6
  -- the triple
  refine ⟨_, rfl, A, _, rfl, .inl ⟨sqL hA7, fun a na => ?_⟩⟩
  refine ⟨_, rfl, B, _, rfl, .inl ⟨sqL (samNew na _ _ hB7), fun b nb => ?_⟩⟩
  refine ⟨_, rfl, C, _, rfl, .inl ⟨sqL (samNew nb _ _ (samNew na _ _ hC7)), fun c nc' => ⟨by show (3 : Nat) ≤ sizeLine; decide, fun r nr => ?_⟩⟩⟩
  refine k r _ ?_ ?_ ⟨a, b, c, updS, ?_, ?_, ?_⟩
  · exact (((s1.trans s14).trans s46).trans s7).trans (((samNew na).trans (samNew nb)).trans ((samNew nc').trans (samNew nr)))
  · exact (((s1.trans s14).trans s46).trans s7).free ((samNew na).free ((samNew nb).free ((samNew nc').free nr)))
  · exact samNew nr _ _ (samNew nc' _ _ (samNew nb _ _ updS))
  · exact samNew nr _ _ (samNew nc' _ _ updS)
  · exact samNew nr _ _ updS
/-! ### next_asks, where the answers are contrary -/
def sp_next_asksX (K : PySem.W.Frag) : Sp := fun vs H Q E => ∃ (p q : Addr) (x y : V) (ws : List Int) (ls : List (Int × Int)) (ans : List (Int × Bool)), vs = [.ref p, x, .ref q, y] ∧ ShapeAt H p ws ls ∧ Good ws ls ∧ ws.length ≤ 1000 ∧ ls.length ≤ 10000 ∧ AnsAt H q ans ∧ ans.length ≤ 1000 ∧ (ans.map (·.1)).Nodup ∧ ContraryC K ∧ ¬ NotContrary ls ans ∧
  ∀ u m : Int, (u, true) ∈ ans → (m, false) ∈ ans → Dn ls u m → (∀ v y, (v, true) ∈ ans → (y, false) ∈ ans → Dn ls v y → u < v ∨ (u = v ∧ m ≤ y)) → ∀ d H', Same H H' → H d = none → H' d = some (.xd [("lower", .int m), ("upper", .int u)]) → E (.ref (He.ga K "Contrary")) (some d) H'
abbrev N_next_asks : List Str := ["shape", "cover", "answers", "few", "left", "version", "middles", "chain", "waiting"]
def t_next_asks (K : PySem.W.Frag) (E : XK) : TS := (tSeq (tAsg (tDc (iTup K (tOp (rIx K) (tCallS (sp_settledX K) (fun _ => E) (tCons (tVar 0) (tCons (tVar 2) tNil))) (tC (.int 2)))) (gName 5) tYes (tVar 5) (tC (.bl true)) [5]) (gName 4))
    (tSeq (tAsg (tLst tNil) (gName 6))
    (tSeq (tFor (iTup K (tOp (rIx K) (tVar 1) (tC (.int 0)))) (gName 7) (tSeq (tAsg (tLc (iTup K (tVar 7)) (gName 5) (tB (tDIn (tVar 5) (tVar 4))) (tVar 5) [5]) (gName 8))
    (tIfS (tTru K (tVar 8)) (tDrop (tBM K "list" rAppend (tVar 6) (tCons (tOp (rIx K) (tVar 8) (tOp rDivI (tCB (fLen K) (tCons (tVar 8) tNil)) (tC (.int 2)))) tNil))) tNext)))
    (tRet (tCB (fTupleOf K) (tCons (tSl (rSlL K) (tVar 6) tNoPart (tPart (tVar 3))) tNil))))))
theorem len_next_asksX (h : sp_next_asksX K vs H Q E) : vs.length = 4 := by
  obtain ⟨_, _, _, _, _, _, _, rfl, _⟩ := h
  rfl
theorem pure_next_asksX (h : sp_next_asksX K vs H Q E) : t_next_asks K E { nx := fun _ H' => Q .non H', rt := Q } (start N_next_asks vs) H := by
  obtain ⟨p, q, x, y, ws, ls, ans, rfl, sh, g, hw, hl, an, hal, nd, cc, nc, k⟩ := h
  exact ⟨_, rfl, _, rfl, p, q, ws, ls, ans, rfl, sh, g, hw, hl, an, hal, nd, cc, fun z => absurd z nc, k⟩
end
end Fw

set_option Elab.async false
set_option linter.all false
set_option maxRecDepth 100000
set_option maxHeartbeats 4000000
namespace Fw
open PySem PySem.Spec PyProof.Rows L2
/-- d.update(e), both dicts by ints and texts, e another one than d -/
def rUpdate : V → List V → Hp → VK → Prop := fun x vs H Q => ∃ (a b : Addr) (kvs more : List (Key × V)), x = .ref a ∧ vs = [.ref b] ∧ a ≠ b ∧ H a = some (.dK kvs) ∧ H b = some (.dK more) ∧ kvs.length + more.length ≤ sizeLine ∧ Q .non (upd H a (.dK (mergeK kvs more)))
theorem mt_update {X : Cx} : MtM X "dict.update" rUpdate := by
  intro pins s σ H x xs v us Q inv rx rs rd
  obtain ⟨a, b, kvs, more, rfl, rfl, ne, ha, hb, few, q⟩ := rd
  obtain rfl : v = Value.ref a := rx
  obtain ⟨u, rfl, ru⟩ := Vals.one rs
  obtain rfl : u = Value.ref b := ru
  obtain ⟨_, na, vs, r1, d1⟩ := dk_of inv.hok ha
  obtain ⟨_, nb, ws, r2, d2⟩ := dk_of inv.hok hb
  have e1 := r1.length
  have e2 := r2.length
  refine call_meetsIn F.slot_dict_update d1.typeIs F.entry_dict_update (F.args_dict_update_2 _ _) (fun A R s' h => (meets_dict_update (mixKind X.prog X.w) a b ne nb) A R s' h) ⟨vs, ws, d1, d2, by omega, fun h' g1 g2 same => ?_⟩
  refine ⟨.non, _, ?_, rfl, q⟩
  have hz : (mergeK kvs more).length ≤ sizeLine := by
    have := length_mergeK more kvs
    omega
  have he : ∃ o, h'.get? a = some o := by
    obtain ⟨o, _, _, h1, _⟩ := g1
    exact ⟨o, h1⟩
  exact d_write inv (by rw [ha]; exact True.intro) same he (dk_new hz na (r2.merge r1) g1)
end Fw

set_option Elab.async false
set_option linter.all false
set_option maxRecDepth 100000
set_option maxHeartbeats 4000000
namespace Fw
open PySem L2 RZ RT
/-! ### sets as dicts, joined -/
def insL (s t : List Int) : List Int := t.foldl ins1 s
theorem mem_insL {x : Int} : ∀ {t s : List Int}, x ∈ insL s t ↔ x ∈ s ∨ x ∈ t
  | [], s => by
    show x ∈ s ↔ _
    simp
  | y :: r, s => by
    show x ∈ insL (ins1 s y) r ↔ _
    rw [mem_insL, mem_ins1, List.mem_cons]
    constructor
    · rintro ((h | h) | h)
      · exact .inl h
      · exact .inr (.inl h)
      · exact .inr (.inr h)
    · rintro (h | h | h)
      · exact .inl (.inl h)
      · exact .inl (.inr h)
      · exact .inr h
theorem nodup_insL : ∀ {t s : List Int}, s.Nodup → (insL s t).Nodup
  | [], s, h => h
  | y :: r, s, h => nodup_insL (t := r) (nodup_ins1 h)
theorem merge_mkS : ∀ (t s : List Int), mergeK (mkS s) (mkS t) = mkS (insL s t)
  | [], s => rfl
  | y :: r, s => by
    show mergeK (putK (mkS s) (.inl y) (.bl true)) (mkS r) = _
    rw [mkS_put, merge_mkS r]
    rfl
theorem nd_inj {α : Type} {l : List α} (h : l.Nodup) {i j : Nat} (hi : i < l.length) (hj : j < l.length) (e : l[i] = l[j]) : i = j := by
  rcases Nat.lt_trichotomy i j with q | q | q
  · exact absurd e (List.pairwise_iff_getElem.mp h i j hi hj q)
  · exact q
  · exact absurd e.symm (List.pairwise_iff_getElem.mp h j i hj hi q)
/-- at U: for each of ws a dict, at as, with the keys that f tells -/
structure UAt (H : Hp) (U : Addr) (ws : List Int) (as : List Addr) (f : Int → List Int) : Prop where
  len : as.length = ws.length
  nd : as.Nodup
  out : U ∉ as
  top : H U = some (.dK (rowsKV ws as))
  row : ∀ (i : Nat) (a : Addr) (w : Int), as[i]? = some a → ws[i]? = some w → H a = some (.dK (mkS (f w)))
def sp_all_below (_ : PySem.W.Frag) : Sp := fun vs H Q _ => ∃ (p : Addr) (ws : List Int) (ls : List (Int × Int)), vs = [.ref p] ∧ ShapeAt H p ws ls ∧ Good ws ls ∧ ws.length ≤ 1000 ∧ ls.length ≤ 10000 ∧
  ∀ (U : Addr) (as : List Addr) (f : Int → List Int) (H' : Hp), Same H H' → H U = none → (∀ a ∈ as, H a = none) → UAt H' U ws as f → (∀ w u, u ∈ f w ↔ ∃ l, (w, l) ∈ ls ∧ Dn ls l u) → (∀ w, (f w).Nodup) → Q (.ref U) H'
abbrev N_all_below : List Str := ["shape", "under", "version", "upper", "lower"]
def t_all_below_upd (K : PySem.W.Frag) : TS := (tDrop (tBM K "dict" rUpdate (tDGet (tVar 1) (tVar 3)) (tCons (tDGet (tVar 1) (tVar 4)) tNil)))
def t_all_below_loop (K : PySem.W.Frag) : TS := (tSeq (tFor (iTup K (tOp (rIx K) (tVar 0) (tC (.int 1)))) (gTup K 2 (gCons (gName 3) (gCons (gName 4) gNil))) (tSeq (sDPut (tDGet (tVar 1) (tVar 3)) (tVar 4) (tC (.bl true)))
    (t_all_below_upd K)))
    (tRet (tVar 1)))
def t_all_below (K : PySem.W.Frag) : TS := (tSeq (tAsg (tDc (iTup K (tOp (rIx K) (tVar 0) (tC (.int 0)))) (gName 2) tYes (tVar 2) tDNewK [2]) (gName 1))
    (t_all_below_loop K))
section
variable {K : PySem.W.Frag} {vs : List V} {H : Hp} {Q : VK} {E : XK}
theorem len_all_below (h : sp_all_below K vs H Q E) : vs.length = 1 := by
  obtain ⟨_, _, _, rfl, _⟩ := h
  rfl
theorem UAt.val {U : Addr} {ws : List Int} {as : List Addr} {f : Int → List Int} (u : UAt H U ws as f) (nd : ws.Nodup) {w : Int} (hw : w ∈ ws) : ∃ (i : Nat) (a : Addr), ws[i]? = some w ∧ as[i]? = some a ∧ valV (rowsKV ws as) (.inl w) = some (.ref a) ∧ H a = some (.dK (mkS (f w))) := by
  obtain ⟨i, hi, e⟩ := List.getElem_of_mem hw
  have h2 : i < as.length := by rw [u.len]; exact hi
  have e1 : ws[i]? = some w := List.getElem?_eq_some_iff.mpr ⟨hi, e⟩
  have e2 : as[i]? = some as[i] := List.getElem?_eq_getElem h2
  exact ⟨i, _, e1, e2, rows_val nd e1 e2, u.row i _ w e2 e1⟩
theorem UAt.set {U : Addr} {ws : List Int} {as : List Addr} {f : Int → List Int} (u : UAt H U ws as f) (nd : ws.Nodup) {i : Nat} {a : Addr} {w : Int} (hw : ws[i]? = some w) (ha : as[i]? = some a) (s : List Int) : UAt (upd H a (.dK (mkS s))) U ws as (fun x => if x = w then s else f x) := by
  have nU : U ≠ a := fun z => u.out (by rw [z]; exact List.mem_of_getElem? ha)
  refine ⟨u.len, u.nd, u.out, updN nU u.top, fun j b x hb hx => ?_⟩
  obtain ⟨hi1, ea⟩ := List.getElem?_eq_some_iff.mp ha
  obtain ⟨hi2, ew⟩ := List.getElem?_eq_some_iff.mp hw
  obtain ⟨hj1, eb⟩ := List.getElem?_eq_some_iff.mp hb
  obtain ⟨hj2, ex⟩ := List.getElem?_eq_some_iff.mp hx
  by_cases e : j = i
  · subst e
    have e1 : b = a := by rw [← eb, ← ea]
    have e2 : x = w := by rw [← ex, ← ew]
    subst e1 e2
    rw [updS, if_pos rfl]
  · have nb : b ≠ a := fun z => e (nd_inj u.nd hj1 hi1 (by rw [ea, eb, z]))
    have nx : x ≠ w := fun z => e (nd_inj nd hj2 hi2 (by rw [ew, ex, z]))
    rw [if_neg nx]
    exact updN nb (u.row j b x hb hx)
/-- what f tells when the links of S are gone through -/
def Part (ls S : List (Int × Int)) (f : Int → List Int) : Prop := (∀ w u, u ∈ f w ↔ ∃ l, (w, l) ∈ S ∧ Dn ls l u) ∧ ∀ w, (f w).Nodup
theorem Part.step {ws : List Int} {ls : List (Int × Int)} (g : Good ws ls) {i : Nat} {l : Int × Int} (e : ls[i]? = some l) {f : Int → List Int} (p : Part ls (ls.take i) f) : Part ls (ls.take (i + 1)) (fun x => if x = l.1 then insL (ins1 (f l.1) l.2) (f l.2) else f x) := by
  have low : ∀ m, (l.2, m) ∈ ls → (l.2, m) ∈ ls.take i := fun m hm => by
    obtain ⟨j, hj, ej⟩ := List.getElem_of_mem hm
    obtain ⟨hi, ei⟩ := List.getElem?_eq_some_iff.mp e
    have hlt := (g.mem l (List.mem_of_getElem? e)).2.2
    have hji : j < i := by
      rcases Nat.lt_or_ge j i with q | q
      · exact q
      · exfalso
        rcases Nat.lt_or_ge i j with q2 | q2
        · have := List.pairwise_iff_getElem.mp g.lex i j hi hj q2
          rw [ei, ej] at this
          rcases this with z | z
          · have : l.1 < l.2 := z
            omega
          · have : l.1 = l.2 := z.1
            omega
        · have e3 : i = j := by omega
          subst e3
          rw [ei] at ej
          have : l.1 = l.2 := congrArg Prod.fst ej
          omega
    rw [← ej]
    exact List.mem_take_iff_getElem.mpr ⟨j, by omega, rfl⟩
  refine ⟨fun w u => ?_, fun w => ?_⟩
  · rw [take_snoc e]
    show u ∈ (if w = l.1 then insL (ins1 (f l.1) l.2) (f l.2) else f w) ↔ _
    by_cases hw : w = l.1
    · subst hw
      rw [if_pos rfl, mem_insL, mem_ins1, p.1, p.1]
      constructor
      · rintro ((⟨m, h1, h2⟩ | h) | ⟨m, h1, h2⟩)
        · exact ⟨m, List.mem_append_left _ h1, h2⟩
        · exact ⟨l.2, List.mem_append_right _ (List.mem_singleton.mpr rfl), by rw [h]; exact .refl _⟩
        · exact ⟨l.2, List.mem_append_right _ (List.mem_singleton.mpr rfl), .step (List.mem_of_mem_take h1) h2⟩
      · rintro ⟨m, h1, h2⟩
        rcases List.mem_append.mp h1 with h1 | h1
        · exact .inl (.inl ⟨m, h1, h2⟩)
        · have em : m = l.2 := congrArg Prod.snd (List.mem_singleton.mp h1)
          subst em
          cases h2 with
          | refl => exact .inl (.inr rfl)
          | step h r => exact .inr ⟨_, low _ h, r⟩
    · rw [if_neg hw, p.1]
      constructor
      · rintro ⟨m, h1, h2⟩
        exact ⟨m, List.mem_append_left _ h1, h2⟩
      · rintro ⟨m, h1, h2⟩
        rcases List.mem_append.mp h1 with h1 | h1
        · exact ⟨m, h1, h2⟩
        · exact absurd (congrArg Prod.fst (List.mem_singleton.mp h1)) hw
  · show (if w = l.1 then insL (ins1 (f l.1) l.2) (f l.2) else f w).Nodup
    split
    · exact nodup_insL (nodup_ins1 (p.2 _))
    · exact p.2 w
theorem dn_in {ws : List Int} {ls : List (Int × Int)} (g : Good ws ls) {v u : Int} (d : Dn ls v u) : v ∈ ws → u ∈ ws := by
  induction d with
  | refl v => exact fun h => h
  | step h r ih => exact fun _ => ih (g.mem _ h).2.1
theorem Part.len {ws : List Int} {ls S : List (Int × Int)} (g : Good ws ls) {f : Int → List Int} (p : Part ls S f) (hS : ∀ l ∈ S, l ∈ ls) (w : Int) : (f w).length ≤ ws.length := by
  refine length_sub (p.2 w) fun x hx => ?_
  obtain ⟨l, h1, h2⟩ := (p.1 w x).mp hx
  exact dn_in g h2 (g.mem _ (hS _ h1)).2.1
theorem pure_all_below (h : sp_all_below K vs H Q E) : t_all_below K { nx := fun _ H' => Q .non H', rt := Q } (start N_all_below vs) H := by
  obtain ⟨p, ws, ls, rfl, sh, g, hwz, hlz, k⟩ := h
  obtain ⟨q, r, rs, hp, hq, hr, lk⟩ := sh
  have wnd := rising_nodup g.inc
  -- under = {version: {} for version in shape[0]}
  refine ⟨_, rfl, ixT hp rfl ⟨q, rfl, ⟨_, sqT hq⟩, fun U nU => ?_⟩⟩
  refine dc_tup (K := K) (a := q) (xs := ws.map V.int) (fun i H2 => ∃ as : List Addr, Same H H2 ∧ (∀ a ∈ as, H a = none) ∧ UAt H2 U (ws.take i) as (fun _ => [])) ⟨[], fun b o e => updN (ne_of_none e nU) e, fun a ha => (by cases ha), ⟨(by rw [List.take_zero]; rfl), List.nodup_nil, fun z => (by cases z), (by rw [List.take_zero]; exact updS), fun i a w ha => (by cases ha)⟩⟩ (fun i H2 _ ⟨as, s, _⟩ => sqT (s _ _ hq)) (fun i x H2 hx ⟨as, s, nas, u⟩ => ?_) (fun H2 ⟨as, s, nas, u⟩ => ?_)
  · rw [List.getElem?_map] at hx
    cases en : ws[i]? with
    | none => rw [en] at hx; cases hx
    | some n =>
      rw [en] at hx
      cases Option.some.inj hx
      have hi : i < ws.length := (List.getElem?_eq_some_iff.mp en).1
      have hlen : (ws.take i).length = i := by rw [List.length_take]; omega
      have nin : n ∉ ws.take i := fun z => by
        obtain ⟨j, hj, ej⟩ := List.getElem_of_mem z
        have hj2 : j < i := by omega
        have : (ws.take i)[j]? = some n := List.getElem?_eq_some_iff.mpr ⟨hj, ej⟩
        rw [List.getElem?_take, if_pos hj2] at this
        obtain ⟨h1, e1⟩ := List.getElem?_eq_some_iff.mp this
        obtain ⟨h2, e2⟩ := List.getElem?_eq_some_iff.mp en
        have := nd_inj wnd h1 h2 (by rw [e1, e2])
        omega
      refine ⟨rfl, ⟨_, rfl, fun a na => ?_⟩⟩
      have nUa : U ≠ a := fun z => by rw [← z, u.top] at na; cases na
      refine ⟨rowsKV (ws.take i) as, Sum.inl n, rfl, updN nUa u.top, ?_, as ++ [a], ?_, ?_, ?_⟩
      · rw [rowsKV_length u.len, hlen]
        exact Nat.lt_of_le_of_lt (by omega : i ≤ 1000) (by decide)
      · exact fun b o e => updN (fun z => by rw [z, nU] at e; cases e) (updN (ne_of_none (s _ _ e) na) (s _ _ e))
      · intro b hb
        rcases List.mem_append.mp hb with hb | hb
        · exact nas b hb
        · rw [List.mem_singleton.mp hb]
          cases z : H a with
          | none => rfl
          | some o => rw [s _ _ z] at na; cases na
      · have nia : a ∉ as := fun z => by
          obtain ⟨j, hj, ej⟩ := List.getElem_of_mem z
          have hj2 : j < (ws.take i).length := by rw [← u.len]; exact hj
          have := u.row j a _ (List.getElem?_eq_some_iff.mpr ⟨hj, ej⟩) (List.getElem?_eq_getElem hj2)
          rw [na] at this
          cases this
        refine ⟨by rw [List.length_append, take_snoc en, List.length_append, u.len]; rfl, ?_, ?_, ?_, ?_⟩
        · rw [List.nodup_append]
          exact ⟨u.nd, List.pairwise_singleton _ _, fun x hx y hy => by
            rw [List.mem_singleton.mp hy]
            intro z
            exact nia (by rw [← z]; exact hx)⟩
        · intro z
          rcases List.mem_append.mp z with z | z
          · exact u.out z
          · exact nUa (List.mem_singleton.mp z)
        · rw [updS, putK_new _ (rows_none nin), take_snoc en, rowsKV_snoc u.len]
        · intro j b w hb hw
          have nbU : b ≠ U := fun z => by
            rcases List.mem_append.mp (List.mem_of_getElem? hb) with q2 | q2
            · exact u.out (by rw [← z]; exact q2)
            · exact nUa (by rw [← z]; exact List.mem_singleton.mp q2)
          refine updN nbU ?_
          by_cases e : j < as.length
          · rw [List.getElem?_append_left e] at hb
            have e2 : j < (ws.take i).length := by rw [← u.len]; exact e
            rw [take_snoc en, List.getElem?_append_left e2] at hw
            have := u.row j b w hb hw
            exact updN (fun z => by rw [z, na] at this; cases this) this
          · rw [List.getElem?_append_right (by omega)] at hb
            have e0 : j - as.length = 0 := by
              have := (List.getElem?_eq_some_iff.mp hb).1
              rw [List.length_singleton] at this
              omega
            rw [e0] at hb
            cases Option.some.inj hb
            exact updS
  · rw [List.length_map, List.take_length] at u
    show t_all_below_loop K { nx := fun _ H' => Q .non H', rt := Q } [some (.ref p), some (.ref U), none, none, none] H2
    refine ⟨_, rfl, ixT (s _ _ hp) rfl ⟨r, rfl, ⟨_, sqT (s _ _ hr)⟩, ?_⟩⟩
    refine for_tup (K := K) (a := r) (xs := rs.map V.ref) (fun i σ H' => ∃ (f : Int → List Int) (z2 z3 z4 : Option V), σ = [some (.ref p), some (.ref U), z2, z3, z4] ∧ Same H H' ∧ UAt H' U ws as f ∧ Part ls (ls.take i) f) ⟨_, none, none, none, rfl, s, u, ?_⟩ (fun i σ H' _ ⟨_, _, _, _, _, s', _⟩ => sqT (s' _ _ hr)) ?_ ?_
    · refine ⟨fun w x => ⟨fun h => (by cases h), fun ⟨l, h1, _⟩ => ?_⟩, fun w => List.nodup_nil⟩
      rw [List.take_zero] at h1
      cases h1
    · rintro i x σ H3 hx ⟨f, z2, z3, z4, rfl, s3, u3, pt⟩
      rw [List.getElem?_map] at hx
      cases er : rs[i]? with
      | none => rw [er] at hx; cases hx
      | some b =>
        rw [er] at hx
        cases Option.some.inj hx
        have hi : i < ls.length := by rw [← lk.1]; exact (List.getElem?_eq_some_iff.mp er).1
        have el : ls[i]? = some ls[i] := List.getElem?_eq_getElem hi
        generalize ls[i] = l at el
        have hb := s3 _ _ (lk.2 i b l er el)
        obtain ⟨m1, m2, m3⟩ := g.mem l (List.mem_of_getElem? el)
        have hS : ∀ l' ∈ ls.take i, l' ∈ ls := fun l' h => List.mem_of_mem_take h
        have lf : ∀ w, (f w).length ≤ 1000 := fun w => Nat.le_trans (pt.len g hS w) hwz
        obtain ⟨i1, a1, w1, e1, v1, h1⟩ := u3.val wnd m1
        obtain ⟨i2, a2, w2, e2, v2, h2⟩ := u3.val wnd m2
        have ne12 : a1 ≠ a2 := fun z => by
          subst z
          obtain ⟨q1, q2⟩ := List.getElem?_eq_some_iff.mp e1
          obtain ⟨q3, q4⟩ := List.getElem?_eq_some_iff.mp e2
          have := nd_inj u3.nd q1 q3 (by rw [q2, q4])
          subst this
          rw [w1] at w2
          have := Option.some.inj w2
          omega
        have na1 : H a1 = none := nas a1 (List.mem_of_getElem? e1)
        have get : ∀ {H' : Hp} {w : Int} {a : Addr}, H' U = some (.dK (rowsKV ws as)) → valV (rowsKV ws as) (.inl w) = some (.ref a) → DGet H' U (.int w) (some (.ref a)) := fun {H' w a} hU hv => by
          have := DGet.k (k := Sum.inl w) hU
          rw [hv] at this
          exact this
        refine ⟨b, [.int l.1, .int l.2], rfl, sqT hb, rfl, _, [.int l.2], rfl, _, [], rfl, rfl, ?_⟩
        refine ⟨_, rfl, _, rfl, U, .ref a1, rfl, get u3.top v1, _, rfl, a1, _, rfl, DPut.k (k := Sum.inl l.2) h1 ?_, ?_⟩
        · rw [mkS_length]
          exact Nat.lt_of_le_of_lt (lf _) (by decide)
        rw [mkS_put]
        have u4 := u3.set wnd w1 e1 (ins1 (f l.1) l.2)
        have s4 : Same H (upd H3 a1 (.dK (mkS (ins1 (f l.1) l.2)))) := fun b o e => updN (fun z => by rw [z, na1] at e; cases e) (s3 _ _ e)
        have h14 : upd H3 a1 (.dK (mkS (ins1 (f l.1) l.2))) a1 = some (.dK (mkS (ins1 (f l.1) l.2))) := updS
        have h24 : upd H3 a1 (.dK (mkS (ins1 (f l.1) l.2))) a2 = some (.dK (mkS (f l.2))) := updN ne12.symm h2
        show t_all_below_upd K _ [some (.ref p), some (.ref U), z2, some (.int l.1), some (.int l.2)] (upd H3 a1 (.dK (mkS (ins1 (f l.1) l.2))))
        refine ⟨_, rfl, _, rfl, U, .ref a1, rfl, get u4.top v1, .inr (.inr (.inl ⟨rfl, .inl ⟨_, h14⟩⟩)), ?_⟩
        refine ⟨_, rfl, _, rfl, U, .ref a2, rfl, get u4.top v2, a1, a2, _, _, rfl, rfl, ne12, h14, h24, ?_, ?_⟩
        · rw [mkS_length, mkS_length]
          have := length_ins1 (f l.1) l.2
          have := lf l.1
          have := lf l.2
          exact Nat.le_trans (by omega : _ ≤ 3000) (by decide)
        · rw [merge_mkS, upd_upd]
          refine ⟨_, _, _, _, rfl, fun b o e => updN (fun z => by rw [z, na1] at e; cases e) (s3 _ _ e), u3.set wnd w1 e1 _, pt.step g el⟩
    · rintro σ H3 ⟨f, z2, z3, z4, rfl, s3, u3, pt⟩
      rw [List.length_map, lk.1, List.take_length] at pt
      exact ⟨_, rfl, k U as f H3 s3 nU nas u3 pt.1 pt.2⟩
end
end Fw

set_option Elab.async false
set_option linter.all false
set_option maxRecDepth 100000
set_option maxHeartbeats 4000000
namespace Fw
open PySem PySem.Spec PyProof.Rows L2
/-- sorted(d, reverse=b) of a dict whose keys are all ints, however many -/
def rSortDR (b : Bool) : List V → List V → Hp → VK → Prop := fun vs zs H Q => ∃ (a : Addr) (kvs : List (Key × V)) (ks : List Int), vs = [.ref a] ∧ zs = [.bl b] ∧ Rd H a (.dK kvs) ∧ kvs.map (·.1) = ks.map Sum.inl ∧
  ∀ (ys : List Int) (p : Addr), ys.Perm ks → OrdB b ys → H p = none → Q (.ref p) (upd H p (.lst (ys.map V.int)))
theorem cr_sortedDR {X : Cx} {b : Bool} (hcalm : X.calm = true) : CallRK X (.builtin "sorted") [Str.ofString "reverse"] (rSortDR b) := by
  intro pins s σ H xs zs us ws Q I r rz q
  obtain ⟨a, kvs, ks, ex, ez, hd, hks, q⟩ := q
  subst ex ez
  obtain ⟨u, eu, rx⟩ := vals1 r
  subst eu
  cases rx
  obtain ⟨w1, rfl, e1⟩ := vals1 rz
  obtain rfl : w1 = Value.bool b := e1
  obtain ⟨z, lo, vs, rel, dd⟩ := dk_rd I.hok hd
  obtain ⟨ep, hat⟩ := dd.dictAt
  have hkeys : vs.map (·.1) = ks.map Sum.inl := rel.keys.symm.trans hks
  have hl : vs.length = ks.length := by
    have e := congrArg List.length hkeys
    rw [List.length_map, List.length_map] at e
    exact e
  have h16 : vs.length ≤ sizeLine := by
    rw [← rel.length]
    exact z
  refine call_function_entry_kw PyProof.Rows.kind_sorted PyProof.Rows.plain_sorted PyProof.Rows.entry_sorted (PyProof.Rows.args_sorted_rev _ _) ?_
  unfold Builtin.«sorted»
  refine wpAny_bind (m := checkCount "sorted" 1 1 _) (wpAny_pure ?_)
  refine wpAny_bind (PySem.W.kdu_collect (A := X.A.in1) (PySem.W.kdl_dict (knd := mixKind X.prog X.w) (kvs := vs) (ep := ep) lo) (I.ok.hd hcalm) hat h16 fun h' tk acc hk hacc => ?_)
  have hal : acc.toList.length = ks.length := by rw [Array.length_toList, hacc.1, hl]
  have hS : IntsAre acc.toList ks := ints_each hal fun j v e => by
    obtain ⟨k, x, e1, e2⟩ := hacc.2 j v (by rw [← Array.getElem?_toList]; exact e)
    have e3 : (vs.map (·.1))[j]? = some k := by rw [List.getElem?_map, e1]; rfl
    rw [hkeys, List.getElem?_map] at e3
    cases e4 : ks[j]? with
    | none => rw [e4] at e3; cases e3
    | some y =>
      rw [e4] at e3
      have e5 : Sum.inl y = k := Option.some.inj e3
      subst e5
      rcases keyIs_shape (show keyIs (Sum.inl y) v = true from e2) with ⟨i, t, ek, ev⟩ | ⟨z, t, ek, ev⟩
      · cases ek
        exact ⟨y, t, rfl, ev⟩
      · cases ek
  have hzl : acc.toList.length ≤ sizeLine := by rw [hal, ← hl]; exact h16
  have I1 : Inv X pins σ H { s with heap := h', toks := tk } := I.kept hk
  refine wpAny_bind (wpAny_newList ?_ hzl)
  have hoL : (h'.push (seqObj "list" acc.toList.toArray 0)).get? h'.objs.size = some (seqObj "list" acc.toList.toArray 0) := Heap.get?_push_size _ rfl
  show wpAny _ _ _ _ _ { s with heap := h'.push (seqObj "list" acc.toList.toArray 0), toks := tk }
  refine wpAny_bind (wpAny_holding (wpAny_call_entry_kw PyProof.Rows.slot_list_sort ⟨_, hoL, rfl⟩ PyProof.Rows.entry_list_sort ?_ (PyProof.Rows.args_list_sort_rev _ _)))
  refine SrtR.list_sort_ordR (s := { s with heap := h'.push (seqObj "list" acc.toList.toArray 0), toks := tk }) SrtO.swo_int hoL hzl (fun h2 => SrtO.ints_sortable hS h2) fun out h1 h2 => ⟨_, rfl, ?_⟩
  obtain ⟨ys, k1, k2, k3⟩ := SrtR.ints_outR hS h1 h2
  obtain ⟨e', he'⟩ := PyProof.Rows.sortedHeap_at (vs := acc.toList) (out := (if b = true then out.toArray.reverse else out.toArray)) hoL
  have hlen : (ys.map V.int).length ≤ sizeLine := by
    rw [List.length_map, k2.length_eq, ← hal]
    exact hzl
  refine wpAny_pure ⟨_, rfl, .ref h'.objs.size, upd H h'.objs.size (.lst (ys.map V.int)), I1.laid (t' := tk) (fun b u e => ?_) (Nat.le_refl _)
    (show ObjOk X.prog X.w _ _ _ (.lst (ys.map V.int)) from ⟨hlen, (if b = true then out.toArray.reverse else out.toArray).toList, e', vals_of_ints k1, by rw [Array.toArray_toList]; exact he'⟩), rfl, q ys _ k2 k3 (I1.hok.fresh (Nat.le_refl _))⟩
  have hb : b < h'.objs.size := Heap.lt_size e
  rw [PyProof.Rows.sortedHeap_old (Nat.ne_of_lt hb) (by rw [size_push']; exact Nat.lt_succ_of_lt hb)]
  exact Heap.get?_push_of_some _ e
end Fw

set_option Elab.async false
set_option linter.all false
set_option maxRecDepth 100000
set_option maxHeartbeats 4000000
namespace Fw
open PySem L2 RZ RT
/-! ### who is paired with whom -/
def setM (m : Int → Option Int) (k v : Int) : Int → Option Int := fun x => if x = k then some v else m x
theorem setM_eq {m : Int → Option Int} {k v : Int} : setM m k v k = some v := if_pos rfl
theorem setM_ne {m : Int → Option Int} {k v x : Int} (h : x ≠ k) : setM m k v x = m x := if_neg h
structure Mt (ws S : List Int) (lo up : Int → Option Int) : Prop where
  inv : ∀ u l, lo u = some l ↔ up l = some u
  dom : ∀ u l, lo u = some l → u ∈ S ∧ l ∈ ws ∧ l < u
/-- from where each lower one was come to, in turn -/
structure Cf (ws : List Int) (v : Int) (lo : Int → Option Int) (cf : List (Int × Int)) : Prop where
  nd : (cf.map (·.1)).Nodup
  ok : ∀ (i : Nat) (l u : Int), cf[i]? = some (l, u) → l ∈ ws ∧ u ∈ ws ∧ l < u ∧ (u = v ∨ ∃ (j : Nat) (l' u' : Int), j < i ∧ cf[j]? = some (l', u') ∧ lo u = some l')
theorem cf_inj {cf : List (Int × Int)} (nd : (cf.map (·.1)).Nodup) {i j : Nat} {l u u' : Int} (h1 : cf[i]? = some (l, u)) (h2 : cf[j]? = some (l, u')) : i = j := by
  obtain ⟨i1, e1⟩ := List.getElem?_eq_some_iff.mp h1
  obtain ⟨j1, e2⟩ := List.getElem?_eq_some_iff.mp h2
  have a : (cf.map (·.1))[i]'(by rw [List.length_map]; exact i1) = (cf.map (·.1))[j]'(by rw [List.length_map]; exact j1) := by
    rw [List.getElem_map, List.getElem_map, e1, e2]
  rcases Nat.lt_trichotomy i j with q | q | q
  · exact absurd a (List.pairwise_iff_getElem.mp nd i j _ _ q)
  · exact q
  · exact absurd a.symm (List.pairwise_iff_getElem.mp nd j i _ _ q)
/-- on the way of giving way: l, at i of cf, has to be given a new one -/
structure Gw (ws S : List Int) (v : Int) (cf : List (Int × Int)) (lo0 lo up : Int → Option Int) (i : Nat) (l : Int) : Prop where
  at_ : ∃ u, cf[i]? = some (l, u)
  inv : ∀ x y, y ≠ l → (lo x = some y ↔ up y = some x)
  no : ∀ x, lo x ≠ some l
  dom : ∀ x y, lo x = some y → x ∈ S ++ [v] ∧ y ∈ ws ∧ y < x
  old : ∀ x, lo x = lo0 x ∨ ∃ (j : Nat) (l' u' : Int), lo0 x = some l' ∧ cf[j]? = some (l', u') ∧ i ≤ j
theorem Gw.start {ws S : List Int} {v l u : Int} {cf : List (Int × Int)} {lo up : Int → Option Int} {i : Nat} (m : Mt ws S lo up) (h : cf[i]? = some (l, u)) (free : up l = none) : Gw ws S v cf lo lo up i l :=
  ⟨⟨u, h⟩, fun x y _ => m.inv x y, (fun x e => by rw [(m.inv x l).mp e] at free; cases free), fun x y e => by
    obtain ⟨a, b, c⟩ := m.dom x y e
    exact ⟨List.mem_append_left _ a, b, c⟩, fun x => .inl rfl⟩
theorem Gw.step {ws S : List Int} {v l u : Int} {cf : List (Int × Int)} {lo0 up0 lo up : Int → Option Int} {i : Nat} (m0 : Mt ws S lo0 up0) (c : Cf ws v lo0 cf) (hv : lo0 v = none) (g : Gw ws S v cf lo0 lo up i l) (hu : cf[i]? = some (l, u)) :
    (lo u = none ∧ Mt ws (S ++ [v]) (setM lo u l) (setM up l u)) ∨ ∃ j l', j < i ∧ lo u = some l' ∧ Gw ws S v cf lo0 (setM lo u l) (setM up l u) j l' := by
  obtain ⟨lw, uw, lu, h⟩ := c.ok i l u hu
  have same : lo u = lo0 u := by
    rcases g.old u with e | ⟨j, l', u', e1, e2, e3⟩
    · exact e
    · exfalso
      rcases h with h | ⟨j2, l2, u2, h1, h2, h3⟩
      · rw [h, hv] at e1
        cases e1
      · rw [h3] at e1
        cases Option.some.inj e1
        have := cf_inj c.nd h2 e2
        omega
  have us : u ∈ S ++ [v] := by
    rcases h with h | ⟨j2, l2, u2, h1, h2, h3⟩
    · rw [h]
      exact List.mem_append_right _ (List.mem_singleton.mpr rfl)
    · exact List.mem_append_left _ (m0.dom u l2 h3).1
  have dom : ∀ x y, setM lo u l x = some y → x ∈ S ++ [v] ∧ y ∈ ws ∧ y < x := fun x y e => by
    by_cases q : x = u
    · subst q
      rw [setM_eq] at e
      cases Option.some.inj e
      exact ⟨us, lw, lu⟩
    · rw [setM_ne q] at e
      exact g.dom x y e
  have pair : ∀ x y, lo u ≠ some y → (setM lo u l x = some y ↔ setM up l u y = some x) := fun x y hy => by
    by_cases q : y = l
    · subst q
      rw [setM_eq]
      by_cases q2 : x = u
      · subst q2
        rw [setM_eq]
        exact ⟨fun _ => rfl, fun _ => rfl⟩
      · rw [setM_ne q2]
        exact ⟨fun e => absurd e (g.no x), fun e => absurd (Option.some.inj e).symm q2⟩
    · rw [setM_ne q]
      by_cases q2 : x = u
      · subst q2
        rw [setM_eq]
        exact ⟨fun e => absurd (Option.some.inj e).symm q, fun e => absurd ((g.inv x y q).mpr e) hy⟩
      · rw [setM_ne q2]
        exact g.inv x y q
  cases e : lo u with
  | none => exact .inl ⟨rfl, fun x y => pair x y (by rw [e]; intro z; cases z), dom⟩
  | some l' =>
    rw [e] at same
    rcases h with h | ⟨j2, l2, u2, h1, h2, h3⟩
    · rw [h, hv] at same
      cases same
    · rw [h3] at same
      cases Option.some.inj same
      have nl : l' ≠ l := fun q => g.no u (by rw [e, q])
      refine .inr ⟨j2, l', h1, rfl, ⟨u2, h2⟩, fun x y hy => pair x y (by rw [e]; intro z; exact hy (Option.some.inj z).symm), fun x hx => ?_, dom, fun x => ?_⟩
      · by_cases q : x = u
        · subst q
          rw [setM_eq] at hx
          exact nl (Option.some.inj hx).symm
        · rw [setM_ne q] at hx
          have a := (g.inv x l' nl).mp hx
          have b := (g.inv u l' nl).mp e
          rw [a] at b
          exact q (Option.some.inj b)
      · by_cases q : x = u
        · subst q
          exact .inr ⟨j2, l', u2, h3, h2, Nat.le_refl _⟩
        · rw [setM_ne q]
          rcases g.old x with h | ⟨j, a, b, c1, c2, c3⟩
          · exact .inl h
          · exact .inr ⟨j, a, b, c1, c2, by omega⟩
/-- one more was come to -/
theorem Cf.snoc {ws : List Int} {v l u : Int} {lo : Int → Option Int} {cf : List (Int × Int)} (c : Cf ws v lo cf) (hl : l ∈ ws) (hu : u ∈ ws) (h : l < u) (new : ∀ (i : Nat) (u' : Int), cf[i]? ≠ some (l, u')) (hup : u = v ∨ ∃ (j : Nat) (l' u' : Int), cf[j]? = some (l', u') ∧ lo u = some l') : Cf ws v lo (cf ++ [(l, u)]) := by
  refine ⟨?_, fun i a b e => ?_⟩
  · rw [List.map_append, List.nodup_append]
    refine ⟨c.nd, List.pairwise_singleton _ _, fun a ha b hb => ?_⟩
    rw [List.map_singleton, List.mem_singleton] at hb
    subst hb
    obtain ⟨p, hp, rfl⟩ := List.mem_map.mp ha
    obtain ⟨i, hi, e⟩ := List.getElem_of_mem hp
    intro q
    refine new i p.2 (List.getElem?_eq_some_iff.mpr ⟨hi, ?_⟩)
    rw [e]
    exact Prod.ext q rfl
  · have lift : ∀ {j : Nat} {x : Int × Int}, cf[j]? = some x → (cf ++ [(l, u)])[j]? = some x := fun {j x} q => by
      rw [List.getElem?_append_left (List.getElem?_eq_some_iff.mp q).1]
      exact q
    by_cases hi : i < cf.length
    · rw [List.getElem?_append_left hi] at e
      obtain ⟨h1, h2, h3, h4⟩ := c.ok i a b e
      refine ⟨h1, h2, h3, ?_⟩
      rcases h4 with h4 | ⟨j, l', u', q1, q2, q3⟩
      · exact .inl h4
      · exact .inr ⟨j, l', u', q1, lift q2, q3⟩
    · have hi2 : i < (cf ++ [(l, u)]).length := (List.getElem?_eq_some_iff.mp e).1
      rw [List.length_append, List.length_singleton] at hi2
      rw [List.getElem?_append_right (by omega), show i - cf.length = 0 by omega] at e
      cases Option.some.inj e
      refine ⟨hl, hu, h, ?_⟩
      rcases hup with q | ⟨j, l', u', q2, q3⟩
      · exact .inl q
      · exact .inr ⟨j, l', u', by have := (List.getElem?_eq_some_iff.mp q2).1; omega, lift q2, q3⟩
def kvOf (cf : List (Int × Int)) : List (Key × V) := cf.map fun e => ((Sum.inl e.1 : Key), V.int e.2)
theorem kv_val {l u : Int} : ∀ {cf : List (Int × Int)} {i : Nat}, (cf.map (·.1)).Nodup → cf[i]? = some (l, u) → valV (kvOf cf) (.inl l) = some (.int u)
  | [], i, _, h => by cases h
  | e :: cf, 0, _, h => by
    cases Option.some.inj h
    show valV ((Sum.inl l, V.int u) :: kvOf cf) (.inl l) = _
    unfold valV
    simp
  | e :: cf, i + 1, nd, h => by
    rw [List.map_cons, List.nodup_cons] at nd
    have ne : e.1 ≠ l := fun q => nd.1 (by rw [q]; exact List.mem_map.mpr ⟨(l, u), List.mem_of_getElem? h, rfl⟩)
    have := kv_val (cf := cf) (i := i) nd.2 h
    show valV ((Sum.inl e.1, V.int e.2) :: kvOf cf) (.inl l) = _
    unfold valV at this ⊢
    rw [List.find?_cons_of_neg (by simp [ne])]
    exact this
theorem kv_none {l : Int} : ∀ {cf : List (Int × Int)}, valV (kvOf cf) (.inl l) = none → ∀ (i : Nat) (u : Int), cf[i]? ≠ some (l, u)
  | [], _, i, u, h => by cases h
  | e :: cf, hn, i, u, h => by
    have hn : valV ((Sum.inl e.1, V.int e.2) :: kvOf cf) (.inl l) = none := hn
    unfold valV at hn
    by_cases q : e.1 = l
    · rw [List.find?_cons_of_pos (by simp [q])] at hn
      cases hn
    · rw [List.find?_cons_of_neg (by simp [q])] at hn
      cases i with
      | zero =>
        cases Option.some.inj h
        exact q rfl
      | succ i => exact kv_none (cf := cf) (by unfold valV; exact hn) i u h
theorem kv_put {l u : Int} {cf : List (Int × Int)} (h : valV (kvOf cf) (.inl l) = none) : putK (kvOf cf) (.inl l) (.int u) = kvOf (cf ++ [(l, u)]) := by
  rw [putK_new _ h]
  unfold kvOf
  rw [List.map_append]
  rfl
theorem kv_len {cf : List (Int × Int)} : (kvOf cf).length = cf.length := List.length_map ..
theorem Cf.few {ws : List Int} {v : Int} {lo : Int → Option Int} {cf : List (Int × Int)} (c : Cf ws v lo cf) : cf.length ≤ ws.length := by
  have := length_sub (vs := ws) c.nd fun x hx => by
    obtain ⟨p, hp, rfl⟩ := List.mem_map.mp hx
    obtain ⟨i, hi, e⟩ := List.getElem_of_mem hp
    exact (c.ok i p.1 p.2 (List.getElem?_eq_some_iff.mpr ⟨hi, e⟩)).1
  rw [List.length_map] at this
  exact this
end Fw

set_option Elab.async false
set_option linter.all false
set_option maxRecDepth 100000
set_option maxHeartbeats 4000000
namespace Fw
open PySem L2 RZ RT
/-! ### the search, step by step -/
abbrev SS : Type := List (Int × Int) × List Int × Option (Int × List Int)
def inK (cf : List (Int × Int)) (l : Int) : Bool := (cf.map (·.1)).contains l
theorem inK_iff {cf : List (Int × Int)} {l : Int} : inK cf l = true ↔ ∃ u, (l, u) ∈ cf := by
  unfold inK
  rw [List.contains_iff_mem, List.mem_map]
  exact ⟨fun ⟨e, he, h⟩ => ⟨e.2, by rw [← h]; exact he⟩, fun ⟨u, h⟩ => ⟨_, h, rfl⟩⟩
theorem inK_left {cf ds : List (Int × Int)} {l : Int} (h : inK cf l = true) : inK (cf ++ ds) l = true := by
  obtain ⟨u, h⟩ := inK_iff.mp h
  exact inK_iff.mpr ⟨u, List.mem_append_left _ h⟩
def stp (nf : Int → List Int) (up : Int → Option Int) (cl : Int → Bool) : SS → Option SS
  | (cf, wt, some (u, l :: r)) => if (inK cf l || cl l) = true then some (cf, wt, some (u, r)) else (match up l with
    | none => none
    | some w => some (cf ++ [(l, u)], wt ++ [w], some (u, r)))
  | (cf, wt, some (_, [])) => some (cf, wt, none)
  | (cf, wt, none) => (match wt.getLast? with
    | none => none
    | some u => some (cf, wt.dropLast, some (u, nf u)))
theorem stp_cons {nf : Int → List Int} {up : Int → Option Int} {cl : Int → Bool} {cf : List (Int × Int)} {wt r : List Int} {u l : Int} : stp nf up cl (cf, wt, some (u, l :: r)) = if (inK cf l || cl l) = true then some (cf, wt, some (u, r)) else (match up l with
    | none => none
    | some w => some (cf ++ [(l, u)], wt ++ [w], some (u, r))) := rfl
theorem stp_none {nf : Int → List Int} {up : Int → Option Int} {cl : Int → Bool} {cf : List (Int × Int)} {wt : List Int} : stp nf up cl (cf, wt, none) = (match wt.getLast? with
    | none => none
    | some u => some (cf, wt.dropLast, some (u, nf u))) := rfl
inductive Star (f : SS → Option SS) (a : SS) : SS → Prop
  | refl : Star f a a
  | snoc {b c : SS} : Star f a b → f b = some c → Star f a c
theorem Star.one {f : SS → Option SS} {a b c : SS} (h : f a = some b) (s : Star f b c) : Star f a c := by
  induction s with
  | refl => exact .snoc .refl h
  | snoc _ e ih => exact .snoc ih e
theorem Star.head {f : SS → Option SS} {a c : SS} (s : Star f a c) : a = c ∨ ∃ d, f a = some d ∧ Star f d c := by
  induction s with
  | refl => exact .inl rfl
  | @snoc b c s e ih =>
    rcases ih with rfl | ⟨d, h1, h2⟩
    · exact .inr ⟨c, e, .refl⟩
    · exact .inr ⟨d, h1, .snoc h2 e⟩
theorem Star.meet {f : SS → Option SS} {a b c : SS} (s : Star f a b) (t : Star f a c) : Star f b c ∨ Star f c b := by
  induction s with
  | refl => exact .inl t
  | @snoc b' b s e ih =>
    rcases ih with h | h
    · rcases h.head with rfl | ⟨d, h1, h2⟩
      · exact .inr (.snoc .refl e)
      · rw [e] at h1
        cases Option.some.inj h1
        exact .inl h2
    · exact .inr (.snoc h e)
theorem Star.stop {f : SS → Option SS} {a b : SS} (s : Star f a b) (h : f a = none) : a = b := by
  rcases s.head with e | ⟨d, h1, _⟩
  · exact e
  · rw [h] at h1
    cases h1
theorem Star.uniq {f : SS → Option SS} {a b c : SS} (s : Star f a b) (t : Star f a c) (hb : f b = none) (hc : f c = none) : b = c := by
  rcases s.meet t with h | h
  · exact h.stop hb
  · exact (h.stop hc).symm
structure SInv (nf : Int → List Int) (up : Int → Option Int) (cl : Int → Bool) (v : Int) (s : SS) : Prop where
  key : ∀ e ∈ s.1, up e.1 ≠ none ∧ cl e.1 = false
  sub : ∀ u r, s.2.2 = some (u, r) → ∀ z ∈ r, z ∈ nf u
  nr : ∀ e ∈ s.1, e.1 ∈ nf e.2
  fin : ∀ u, (u = v ∨ ∃ e ∈ s.1, up e.1 = some u) → u ∈ s.2.1 ∨ (∀ l ∈ nf u, inK s.1 l = true ∨ cl l = true) ∨ ∃ r, s.2.2 = some (u, r) ∧ ∀ l ∈ nf u, l ∈ r ∨ inK s.1 l = true ∨ cl l = true
theorem star_inv {nf : Int → List Int} {up : Int → Option Int} {cl : Int → Bool} {v : Int} {s : SS} (h : Star (stp nf up cl) ([], [v], none) s) : SInv nf up cl v s := by
  induction h with
  | refl => exact ⟨fun e he => (by cases he), fun u r h => (by cases h), fun e he => (by cases he), fun u h => .inl (h.elim (fun e => by rw [e]; exact List.mem_singleton.mpr rfl) fun ⟨e, he, _⟩ => by cases he)⟩
  | @snoc b c s e ih =>
    obtain ⟨cf, wt, cur⟩ := b
    match cur, e, ih with
    | some (u0, l :: r), e, ih =>
      rw [stp_cons] at e
      by_cases hk : (inK cf l || cl l) = true
      · rw [if_pos hk] at e
        cases Option.some.inj e
        refine ⟨ih.key, fun u r' h z hz => ?_, ih.nr, fun u hu => ?_⟩
        · cases Option.some.inj h
          exact ih.sub u0 _ rfl z (List.mem_cons_of_mem _ hz)
        rcases ih.fin u hu with h | h | ⟨r', h1, h2⟩
        · exact .inl h
        · exact .inr (.inl h)
        · cases Option.some.inj h1
          refine .inr (.inr ⟨r, rfl, fun z hz => ?_⟩)
          rcases h2 z hz with h | h
          · rcases List.mem_cons.mp h with rfl | h
            · exact .inr (by rw [Bool.or_eq_true] at hk; exact hk)
            · exact .inl h
          · exact .inr h
      · rw [if_neg hk] at e
        cases ew : up l with
        | none => rw [ew] at e; cases e
        | some w =>
          rw [ew] at e
          cases Option.some.inj e
          refine ⟨fun z hz => ?_, fun u r' h z hz => ?_, fun z hz => ?_, fun u hu => ?_⟩
          rotate_left
          · cases Option.some.inj h
            exact ih.sub u0 _ rfl z (List.mem_cons_of_mem _ hz)
          · rcases List.mem_append.mp hz with hz | hz
            · exact ih.nr z hz
            · rw [List.mem_singleton.mp hz]
              exact ih.sub u0 _ rfl l (List.mem_cons_self ..)
          rotate_left
          · rcases List.mem_append.mp hz with hz | hz
            · exact ih.key z hz
            · rw [List.mem_singleton.mp hz]
              refine ⟨(by show up l ≠ none; rw [ew]; exact fun z => nomatch z), ?_⟩
              show cl l = false
              cases q : cl l with
              | false => rfl
              | true => rw [q, Bool.or_true] at hk; exact absurd rfl hk
          · have lift : ∀ {z : Int}, inK cf z = true ∨ cl z = true → inK (cf ++ [(l, u0)]) z = true ∨ cl z = true := fun h => h.imp inK_left id
            have old : (u = v ∨ ∃ e ∈ cf, up e.1 = some u) → u ∈ wt ++ [w] ∨ (∀ z ∈ nf u, inK (cf ++ [(l, u0)]) z = true ∨ cl z = true) ∨ ∃ r', some (u0, r) = some (u, r') ∧ ∀ z ∈ nf u, z ∈ r' ∨ inK (cf ++ [(l, u0)]) z = true ∨ cl z = true := fun h => by
              rcases ih.fin u h with h | h | ⟨r', h1, h2⟩
              · exact .inl (List.mem_append_left _ h)
              · exact .inr (.inl fun z hz => lift (h z hz))
              · cases Option.some.inj h1
                refine .inr (.inr ⟨r, rfl, fun z hz => ?_⟩)
                rcases h2 z hz with h | h
                · rcases List.mem_cons.mp h with rfl | h
                  · exact .inr (.inl (inK_iff.mpr ⟨u0, List.mem_append_right _ (List.mem_singleton.mpr rfl)⟩))
                  · exact .inl h
                · exact .inr (lift h)
            rcases hu with h | ⟨z, hz, h⟩
            · exact old (.inl h)
            · rcases List.mem_append.mp hz with hz | hz
              · exact old (.inr ⟨z, hz, h⟩)
              · rw [List.mem_singleton.mp hz] at h
                have h : up l = some u := h
                rw [ew] at h
                cases Option.some.inj h
                exact .inl (List.mem_append_right _ (List.mem_singleton.mpr rfl))
    | some (u0, []), e, ih =>
      cases Option.some.inj e
      refine ⟨ih.key, fun u r h => (by cases h), ih.nr, fun u hu => ?_⟩
      rcases ih.fin u hu with h | h | ⟨r', h1, h2⟩
      · exact .inl h
      · exact .inr (.inl h)
      · cases Option.some.inj h1
        exact .inr (.inl fun z hz => (h2 z hz).elim (fun q => by cases q) id)
    | none, e, ih =>
      rw [stp_none] at e
      cases ew : wt.getLast? with
      | none => rw [ew] at e; cases e
      | some w =>
        rw [ew] at e
        cases Option.some.inj e
        refine ⟨ih.key, fun u r h z hz => (by cases Option.some.inj h; exact hz), ih.nr, fun u hu => ?_⟩
        rcases ih.fin u hu with h | h | ⟨r', h1, h2⟩
        · have hn : wt ≠ [] := fun q => by rw [q] at h; cases h
          have sp : wt = wt.dropLast ++ [w] := by
            rw [List.getLast?_eq_some_getLast hn] at ew
            rw [← Option.some.inj ew]
            exact (List.dropLast_concat_getLast hn).symm
          have h : u ∈ wt := h
          rw [sp] at h
          rcases List.mem_append.mp h with h | h
          · exact .inl h
          · rw [List.mem_singleton.mp h]
            exact .inr (.inr ⟨_, rfl, fun z hz => .inl hz⟩)
        · exact .inr (.inl h)
        · cases h1
/-! ### giving way, step by step -/
inductive GwR (cf : List (Int × Int)) : (Int → Option Int) → (Int → Option Int) → Int → (Int → Option Int) → (Int → Option Int) → Prop
  | done {lo up : Int → Option Int} {l u : Int} {i : Nat} : cf[i]? = some (l, u) → lo u = none → GwR cf lo up l (setM lo u l) (setM up l u)
  | next {lo up lo' up' : Int → Option Int} {l u l' : Int} {i : Nat} : cf[i]? = some (l, u) → lo u = some l' → GwR cf (setM lo u l) (setM up l u) l' lo' up' → GwR cf lo up l lo' up'
theorem cf_val {cf : List (Int × Int)} (nd : (cf.map (·.1)).Nodup) {i j : Nat} {l u u' : Int} (h1 : cf[i]? = some (l, u)) (h2 : cf[j]? = some (l, u')) : u = u' := by
  have := cf_inj nd h1 h2
  subst this
  rw [h1] at h2
  cases Option.some.inj h2
  rfl
theorem GwR.uniq {cf : List (Int × Int)} (nd : (cf.map (·.1)).Nodup) {lo up : Int → Option Int} {l : Int} {a b a' b' : Int → Option Int} (h : GwR cf lo up l a b) (h' : GwR cf lo up l a' b') : a = a' ∧ b = b' := by
  induction h with
  | done h1 h2 =>
    cases h' with
    | done g1 g2 =>
      have := cf_val nd h1 g1
      subst this
      exact ⟨rfl, rfl⟩
    | next g1 g2 _ =>
      have := cf_val nd h1 g1
      subst this
      rw [h2] at g2
      cases g2
  | next h1 h2 _ ih =>
    cases h' with
    | done g1 g2 =>
      have := cf_val nd h1 g1
      subst this
      rw [h2] at g2
      cases g2
    | next g1 g2 g3 =>
      have := cf_val nd h1 g1
      subst this
      rw [h2] at g2
      cases Option.some.inj g2
      exact ih g3
theorem GwR.facts {cf : List (Int × Int)} {lo up : Int → Option Int} {l : Int} {a b : Int → Option Int} (h : GwR cf lo up l a b) : (∀ y, b y = up y ∨ ∃ u, (y, u) ∈ cf) ∧ (∀ x, a x = none → lo x = none) ∧ ∀ x y, a x = some y → lo x = some y ∨ (y, x) ∈ cf := by
  have one : ∀ {lo up : Int → Option Int} {l u : Int} {i : Nat}, cf[i]? = some (l, u) → (∀ y, setM up l u y = up y ∨ ∃ u, (y, u) ∈ cf) ∧ (∀ x, setM lo u l x = none → lo x = none) ∧ ∀ x y, setM lo u l x = some y → lo x = some y ∨ (y, x) ∈ cf := fun {lo up l u i} h1 => by
    refine ⟨fun y => ?_, fun x hx => ?_, fun x y hx => ?_⟩
    rotate_right
    · by_cases q : x = u
      · subst q
        rw [setM_eq] at hx
        cases Option.some.inj hx
        exact .inr (List.mem_of_getElem? h1)
      · rw [setM_ne q] at hx
        exact .inl hx
    · by_cases q : y = l
      · subst q
        exact .inr ⟨u, List.mem_of_getElem? h1⟩
      · exact .inl (setM_ne q)
    · by_cases q : x = u
      · subst q
        rw [setM_eq] at hx
        cases hx
      · rw [setM_ne q] at hx
        exact hx
  induction h with
  | done h1 _ => exact one h1
  | next h1 _ _ ih =>
    obtain ⟨a1, a2, a3⟩ := one h1
    refine ⟨fun y => ?_, fun x hx => a2 x (ih.2.1 x hx), fun x y hx => (ih.2.2 x y hx).elim (a3 x y) .inr⟩
    rcases ih.1 y with e | e
    · rcases a1 y with e2 | e2
      · exact .inl (e.trans e2)
      · exact .inr e2
    · exact .inr e
/-! ### one version paired, or none to be had -/
def PairR (nf : Int → List Int) (lo up : Int → Option Int) (cl : Int → Bool) (v : Int) (lo' up' : Int → Option Int) (cl' : Int → Bool) : Prop :=
  (∃ cf wt u l r, Star (stp nf up cl) ([], [v], none) (cf, wt, some (u, l :: r)) ∧ (inK cf l || cl l) = false ∧ up l = none ∧ (cf.map (·.1)).Nodup ∧ GwR (cf ++ [(l, u)]) lo up l lo' up' ∧ cl' = cl ∧ lo' v ≠ none) ∨
  ∃ cf, Star (stp nf up cl) ([], [v], none) (cf, [], none) ∧ lo' = lo ∧ up' = up ∧ cl' = fun k => cl k || inK cf k
theorem stp_found {nf : Int → List Int} {up : Int → Option Int} {cl : Int → Bool} {cf : List (Int × Int)} {wt r : List Int} {u l : Int} (h : (inK cf l || cl l) = false) (hu : up l = none) : stp nf up cl (cf, wt, some (u, l :: r)) = none := by
  rw [stp_cons, if_neg (by rw [h]; exact Bool.false_ne_true), hu]
theorem nd_snoc {cf : List (Int × Int)} (nd : (cf.map (·.1)).Nodup) {l u : Int} (h : inK cf l = false) : ((cf ++ [(l, u)]).map (·.1)).Nodup := by
  rw [List.map_append, List.nodup_append]
  refine ⟨nd, List.pairwise_singleton _ _, fun a ha b hb => ?_⟩
  rw [List.map_singleton, List.mem_singleton] at hb
  subst hb
  intro q
  subst q
  unfold inK at h
  rw [List.contains_iff_mem.mpr ha] at h
  cases h
theorem PairR.uniq {nf : Int → List Int} {lo up : Int → Option Int} {cl : Int → Bool} {v : Int} {a b a' b' : Int → Option Int} {c c' : Int → Bool} (h : PairR nf lo up cl v a b c) (h' : PairR nf lo up cl v a' b' c') : a = a' ∧ b = b' ∧ c = c' := by
  rcases h with ⟨cf, wt, u, l, r, s, hk, hu, nd, g, rfl, _⟩ | ⟨cf, s, rfl, rfl, rfl⟩
  · rcases h' with ⟨cf', wt', u', l', r', s', hk', hu', nd', g', rfl, _⟩ | ⟨cf', s', rfl, rfl, rfl⟩
    · have e := s.uniq s' (stp_found hk hu) (stp_found hk' hu')
      injection e with e1 e2
      injection e2 with e2 e3
      injection e3 with e3
      injection e3 with e3 e4
      injection e4 with e4 e5
      subst e1 e3 e4
      obtain ⟨q1, q2⟩ := g.uniq (nd_snoc nd (by rw [Bool.or_eq_false_iff] at hk; exact hk.1)) g'
      exact ⟨q1, q2, rfl⟩
    · have e := s.uniq s' (stp_found hk hu) rfl
      injection e with e1 e2
      injection e2 with e2 e3
      cases e3
  · rcases h' with ⟨cf', wt', u', l', r', s', hk', hu', nd', g', rfl, _⟩ | ⟨cf', s', rfl, rfl, rfl⟩
    · have e := s.uniq s' rfl (stp_found hk' hu')
      injection e with e1 e2
      injection e2 with e2 e3
      cases e3
    · have e := s.uniq s' rfl rfl
      injection e with e1 e2
      subst e1
      exact ⟨rfl, rfl, rfl⟩
/-- what is closed, and who has none -/
structure Kn (nf : Int → List Int) (S : List Int) (lo up : Int → Option Int) (cl : Int → Bool) : Prop where
  c1 : ∀ l, cl l = true → ∃ u, up l = some u ∧ ∀ z ∈ nf u, cl z = true
  c2 : ∀ v ∈ S, lo v = none → ∀ z ∈ nf v, cl z = true
  c3 : ∀ u l, lo u = some l → l ∈ nf u
theorem Kn.step {nf : Int → List Int} {S : List Int} {lo up lo' up' : Int → Option Int} {cl cl' : Int → Bool} {v : Int} (k : Kn nf S lo up cl) (h : PairR nf lo up cl v lo' up' cl') : Kn nf (S ++ [v]) lo' up' cl' := by
  rcases h with ⟨cf, wt, u, l, r, s, hk, hu, nd, g, rfl, hv⟩ | ⟨cf, s, rfl, rfl, rfl⟩
  · obtain ⟨f1, f2, f3⟩ := g.facts
    have inv := star_inv s
    rw [Bool.or_eq_false_iff] at hk
    refine ⟨fun z hz => ?_, fun x hx hn => ?_, fun x y hx => ?_⟩
    rotate_right
    · rcases f3 x y hx with h | h
      · exact k.c3 x y h
      · rcases List.mem_append.mp h with h | h
        · exact inv.nr _ h
        · cases List.mem_singleton.mp h
          exact inv.sub u _ rfl l (List.mem_cons_self ..)
    · obtain ⟨w, h1, h2⟩ := k.c1 z hz
      refine ⟨w, ?_, h2⟩
      rcases f1 z with e | ⟨y, hy⟩
      · rw [e]
        exact h1
      · exfalso
        rcases List.mem_append.mp hy with hy | hy
        · have := (inv.key _ hy).2
          rw [show cl' z = false from this] at hz
          cases hz
        · cases List.mem_singleton.mp hy
          rw [hk.2] at hz
          cases hz
    · rcases List.mem_append.mp hx with hx | hx
      · exact k.c2 x hx (f2 x hn)
      · rw [List.mem_singleton.mp hx] at hn
        exact absurd hn hv
  · have inv := star_inv s
    have out : ∀ {u z : Int}, (u = v ∨ ∃ e ∈ cf, up' e.1 = some u) → z ∈ nf u → (cl z || inK cf z) = true := fun {u z} hu hz => by
      rw [Bool.or_eq_true]
      rcases inv.fin u hu with h | h | ⟨r, h1, _⟩
      · cases h
      · exact (h z hz).symm
      · cases h1
    refine ⟨fun z hz => ?_, fun x hx hn z hz => ?_, k.c3⟩
    · have hz : (cl z || inK cf z) = true := hz
      rw [Bool.or_eq_true] at hz
      rcases hz with hz | hz
      · obtain ⟨w, h1, h2⟩ := k.c1 z hz
        exact ⟨w, h1, fun y hy => by show (cl y || inK cf y) = true; rw [h2 y hy]; rfl⟩
      · obtain ⟨y, hy⟩ := inK_iff.mp hz
        cases e : up' z with
        | none => exact absurd e (inv.key _ hy).1
        | some w => exact ⟨w, rfl, fun y' hy' => out (.inr ⟨_, hy, e⟩) hy'⟩
    · rcases List.mem_append.mp hx with hx | hx
      · show (cl z || inK cf z) = true
        rw [k.c2 x hx hn z hz]
        rfl
      · rw [List.mem_singleton.mp hx] at hz
        exact out (.inl rfl) hz
/-! ### all of them in turn -/
inductive Runs (nf : Int → List Int) : List Int → (Int → Option Int) → (Int → Option Int) → (Int → Bool) → Prop
  | nil : Runs nf [] (fun _ => none) (fun _ => none) (fun _ => false)
  | snoc {S : List Int} {lo up lo' up' : Int → Option Int} {cl cl' : Int → Bool} {v : Int} : Runs nf S lo up cl → PairR nf lo up cl v lo' up' cl' → Runs nf (S ++ [v]) lo' up' cl'
theorem Runs.kn {nf : Int → List Int} {S : List Int} {lo up : Int → Option Int} {cl : Int → Bool} (h : Runs nf S lo up cl) : Kn nf S lo up cl := by
  induction h with
  | nil => exact ⟨(fun _ h => by cases h), (fun _ h => by cases h), fun _ _ h => by cases h⟩
  | snoc _ p ih => exact ih.step p
theorem Runs.uniq {nf : Int → List Int} {S : List Int} {lo up : Int → Option Int} {cl : Int → Bool} (h : Runs nf S lo up cl) : ∀ {lo' up' : Int → Option Int} {cl' : Int → Bool}, Runs nf S lo' up' cl' → lo = lo' ∧ up = up' ∧ cl = cl' := by
  induction h with
  | nil =>
    intro lo' up' cl' h'
    generalize e : ([] : List Int) = T at h'
    cases h' with
    | nil => exact ⟨rfl, rfl, rfl⟩
    | snoc _ _ => exact absurd e.symm (by simp)
  | @snoc S lo up lo2 up2 cl cl2 v _ p ih =>
    intro lo' up' cl' h'
    generalize e : S ++ [v] = T at h'
    cases h' with
    | nil => exact absurd e (by simp)
    | snoc q p' =>
      obtain ⟨e1, e2⟩ := List.append_inj' e rfl
      subst e1
      cases List.singleton_inj.mp e2
      obtain ⟨q1, q2, q3⟩ := ih q
      subst q1 q2 q3
      exact p.uniq p'
/-! ### chains -/
def ChainOf (up : Int → Option Int) (f : Int) (cs : List Int) : Prop := cs[0]? = some f ∧ ∀ (i : Nat) (x : Int), cs[i]? = some x → cs[i + 1]? = up x
theorem ChainOf.uniq {up : Int → Option Int} {f : Int} {cs ds : List Int} (h : ChainOf up f cs) (g : ChainOf up f ds) : cs = ds := by
  refine List.ext_getElem? fun i => ?_
  induction i with
  | zero => rw [h.1, g.1]
  | succ i ih =>
    cases e : cs[i]? with
    | some x => rw [h.2 i x e, g.2 i x (by rw [← ih]; exact e)]
    | none =>
      rw [List.getElem?_eq_none_iff] at e
      have e2 := List.getElem?_eq_none_iff.mp (ih ▸ List.getElem?_eq_none_iff.mpr e : ds[i]? = none)
      rw [List.getElem?_eq_none_iff.mpr (by omega), List.getElem?_eq_none_iff.mpr (by omega)]
def freeB (lo : Int → Option Int) (v : Int) : Bool := (lo v).isNone
def apB (lo : Int → Option Int) (cl : Int → Bool) (v : Int) : Bool := !cl v && (match lo v with | none => true | some l => cl l)
def ChsOf (lo up : Int → Option Int) (ws : List Int) (cs : List (List Int)) : Prop := cs.length = (ws.filter (freeB lo)).length ∧ ∀ (i : Nat) (f : Int) (c : List Int), (ws.filter (freeB lo))[i]? = some f → cs[i]? = some c → ChainOf up f c
theorem ChsOf.uniq {lo up : Int → Option Int} {ws : List Int} {cs ds : List (List Int)} (h : ChsOf lo up ws cs) (g : ChsOf lo up ws ds) : cs = ds := by
  refine List.ext_getElem? fun i => ?_
  by_cases hi : i < (ws.filter (freeB lo)).length
  · have h1 := List.getElem?_eq_getElem (l := cs) (i := i) (by rw [h.1]; exact hi)
    have h2 := List.getElem?_eq_getElem (l := ds) (i := i) (by rw [g.1]; exact hi)
    rw [h1, h2, (h.2 i _ _ (List.getElem?_eq_getElem hi) h1).uniq (g.2 i _ _ (List.getElem?_eq_getElem hi) h2)]
  · rw [List.getElem?_eq_none_iff.mpr (by rw [h.1]; omega), List.getElem?_eq_none_iff.mpr (by rw [g.1]; omega)]
/-- what is near: strictly below, the greatest first -/
structure NfOk (ws : List Int) (ls : List (Int × Int)) (nf : Int → List Int) : Prop where
  mem : ∀ w u, u ∈ nf w ↔ ∃ l, (w, l) ∈ ls ∧ Dn ls l u
  eq : ∃ f : Int → List Int, nf = fun w => (ws.filter fun u => (f w).contains u).reverse
structure CoverIs (ws : List Int) (ls : List (Int × Int)) (cs : List (List Int)) (ap : List Int) (nf : Int → List Int) (lo up : Int → Option Int) (cl : Int → Bool) : Prop where
  nfo : NfOk ws ls nf
  run : Runs nf ws lo up cl
  mt : Mt ws ws lo up
  chs : ChsOf lo up ws cs
  ap : ap = ws.filter (apB lo cl)
theorem NfOk.uniq {ws : List Int} {ls : List (Int × Int)} (g : Good ws ls) {nf nf' : Int → List Int} (h : NfOk ws ls nf) (h' : NfOk ws ls nf') : nf = nf' := by
  obtain ⟨f, e⟩ := h.eq
  obtain ⟨f', e'⟩ := h'.eq
  funext w
  have mm : ∀ u, u ∈ nf w ↔ u ∈ nf' w := fun u => (h.mem w u).trans (h'.mem w u).symm
  rw [e, e'] at mm ⊢
  show (ws.filter fun u => (f w).contains u).reverse = (ws.filter fun u => (f' w).contains u).reverse
  refine congrArg List.reverse (List.filter_congr fun u hu => ?_)
  have := mm u
  simp only [List.mem_reverse, List.mem_filter, hu, true_and] at this
  rw [Bool.eq_iff_iff]
  exact this
theorem CoverIs.uniq {ws : List Int} {ls : List (Int × Int)} (g : Good ws ls) {cs cs' : List (List Int)} {ap ap' : List Int} {nf nf' : Int → List Int} {lo up lo' up' : Int → Option Int} {cl cl' : Int → Bool} (h : CoverIs ws ls cs ap nf lo up cl) (h' : CoverIs ws ls cs' ap' nf' lo' up' cl') : cs = cs' ∧ ap = ap' := by
  have := h.nfo.uniq g h'.nfo
  subst this
  obtain ⟨e1, e2, e3⟩ := h.run.uniq h'.run
  subst e1 e2 e3
  exact ⟨h.chs.uniq h'.chs, h.ap.trans h'.ap.symm⟩
end Fw

set_option Elab.async false
set_option linter.all false
set_option maxRecDepth 100000
set_option maxHeartbeats 4000000
namespace Fw
open PySem L2 RZ RT
/-- chains in which each version stands once, and as many apart as chains -/
structure CovOk (ws : List Int) (ls : List (Int × Int)) (cs : List (List Int)) (ap : List Int) : Prop where
  nd : cs.flatten.Nodup
  mem : ∀ x, x ∈ cs.flatten ↔ x ∈ ws
  ne : ∀ c ∈ cs, c ≠ []
  up : ∀ c ∈ cs, c.Pairwise (· < ·)
  dn : ∀ c ∈ cs, ∀ (i : Nat) (x y : Int), c[i]? = some x → c[i + 1]? = some y → Dn ls y x
  fst : ∀ (i j : Nat) (c d : List Int) (x y : Int), i < j → cs[i]? = some c → cs[j]? = some d → c[0]? = some x → d[0]? = some y → x < y
  len : cs.length = ap.length
  apm : ∀ x ∈ ap, x ∈ ws
  api : ap.Pairwise (· < ·)
  apd : ∀ x ∈ ap, ∀ y ∈ ap, x ≠ y → ¬ Dn ls x y
theorem chain_root {lo up : Int → Option Int} (inv : ∀ u l, lo u = some l ↔ up l = some u) {f f' : Int} {c d : List Int} (h : ChainOf up f c) (g : ChainOf up f' d) (hf : lo f = none) (hg : lo f' = none) : ∀ (i j : Nat) (x : Int), c[i]? = some x → d[j]? = some x → f = f'
  | 0, 0, x, h1, h2 => by
    rw [h.1] at h1
    rw [g.1] at h2
    cases Option.some.inj h1
    cases Option.some.inj h2
    rfl
  | 0, j + 1, x, h1, h2 => by
    rw [h.1] at h1
    cases Option.some.inj h1
    have hj : j < d.length := by have := (List.getElem?_eq_some_iff.mp h2).1; omega
    have e := List.getElem?_eq_getElem hj
    rw [g.2 j _ e] at h2
    rw [(inv f d[j]).mpr h2] at hf
    cases hf
  | i + 1, 0, x, h1, h2 => by
    rw [g.1] at h2
    cases Option.some.inj h2
    have hj : i < c.length := by have := (List.getElem?_eq_some_iff.mp h1).1; omega
    have e := List.getElem?_eq_getElem hj
    rw [h.2 i _ e] at h1
    rw [(inv f' c[i]).mpr h1] at hg
    cases hg
  | i + 1, j + 1, x, h1, h2 => by
    have hi : i < c.length := by have := (List.getElem?_eq_some_iff.mp h1).1; omega
    have hj : j < d.length := by have := (List.getElem?_eq_some_iff.mp h2).1; omega
    have e1 := List.getElem?_eq_getElem hi
    have e2 := List.getElem?_eq_getElem hj
    rw [h.2 i _ e1] at h1
    rw [g.2 j _ e2] at h2
    have a := (inv x c[i]).mpr h1
    rw [(inv x d[j]).mpr h2] at a
    have a := Option.some.inj a
    rw [a] at e2
    exact chain_root inv h g hf hg i j _ e1 e2
def b2n (b : Bool) : Nat := if b then 1 else 0
theorem count_four {p q r s : Int → Bool} : ∀ {ws : List Int}, (∀ v ∈ ws, b2n (p v) + b2n (q v) = b2n (r v) + b2n (s v)) → (ws.filter p).length + (ws.filter q).length = (ws.filter r).length + (ws.filter s).length
  | [], _ => rfl
  | v :: ws, h => by
    have ih := count_four (p := p) (q := q) (r := r) (s := s) (ws := ws) fun x hx => h x (List.mem_cons_of_mem _ hx)
    have h0 := h v (List.mem_cons_self ..)
    have one : ∀ t : Int → Bool, ((v :: ws).filter t).length = b2n (t v) + (ws.filter t).length := fun t => by
      unfold b2n
      cases e : t v with
      | true => rw [List.filter_cons_of_pos e, List.length_cons, if_pos rfl]; omega
      | false => rw [List.filter_cons_of_neg (by rw [e]; exact Bool.false_ne_true), if_neg Bool.false_ne_true]; omega
    rw [one p, one q, one r, one s]
    omega
section
variable {ws : List Int} {ls : List (Int × Int)} {nf : Int → List Int} {lo up : Int → Option Int} {cl : Int → Bool}
theorem near_iff (n : NfOk ws ls nf) {w u : Int} (h : u ∈ nf w) : Dn ls w u := by
  obtain ⟨l, h1, h2⟩ := (n.mem w u).mp h
  exact .step h1 h2
theorem near_of (n : NfOk ws ls nf) {w u : Int} (h : Dn ls w u) (ne : w ≠ u) : u ∈ nf w := by
  cases h with
  | refl => exact absurd rfl ne
  | step h1 h2 => exact (n.mem w u).mpr ⟨_, h1, h2⟩
theorem near_lt (g : Good ws ls) (n : NfOk ws ls nf) {w u : Int} (h : u ∈ nf w) : u < w := by
  obtain ⟨l, h1, h2⟩ := (n.mem w u).mp h
  have := (g.mem _ h1).2.2
  have h3 := Dn.le g h2
  have this : l < w := this
  omega
theorem near_tr (n : NfOk ws ls nf) {w u z : Int} (h : u ∈ nf w) (k : z ∈ nf u) : z ∈ nf w := by
  obtain ⟨l, h1, h2⟩ := (n.mem w u).mp h
  exact (n.mem w z).mpr ⟨l, h1, h2.trans (near_iff n k)⟩
def loC (lo : Int → Option Int) (cl : Int → Bool) (v : Int) : Bool := match lo v with
  | none => false
  | some l => cl l
theorem len_map_sub {xs ys : List Int} {f : Int → Int} (nd : xs.Nodup) (inj : ∀ a ∈ xs, ∀ b ∈ xs, f a = f b → a = b) (h : ∀ a ∈ xs, f a ∈ ys) : xs.length ≤ ys.length := by
  have : (xs.map f).Nodup := by
    rw [List.Nodup, List.pairwise_map]
    exact nd.imp_of_mem fun {a b} ha hb ne e => ne (inj a ha b hb e)
  have := length_sub this (vs := ys) fun x hx => by
    obtain ⟨a, ha, rfl⟩ := List.mem_map.mp hx
    exact h a ha
  rw [List.length_map] at this
  exact this
theorem few_apart (g : Good ws ls) (n : NfOk ws ls nf) (m : Mt ws ws lo up) (k : Kn nf ws lo up cl) : (ws.filter (freeB lo)).length = (ws.filter (apB lo cl)).length := by
  have nd := rising_nodup g.inc
  have c4 := count_four (p := apB lo cl) (q := cl) (r := freeB lo) (s := loC lo cl) (ws := ws) fun v hv => by
    unfold apB freeB loC
    cases ec : cl v with
    | false =>
      cases e : lo v with
      | none => rfl
      | some l => show b2n (cl l) + 0 = 0 + b2n (cl l); omega
    | true =>
      cases e : lo v with
      | none => rfl
      | some l =>
        obtain ⟨u, h1, h2⟩ := k.c1 v ec
        have : cl l = true := h2 l (near_tr n (k.c3 u v ((m.inv u v).mpr h1)) (k.c3 v l e))
        show 0 + 1 = 0 + b2n (cl l)
        rw [this]
        rfl
  have e : (ws.filter cl).length = (ws.filter (loC lo cl)).length := by
    refine Nat.le_antisymm (len_map_sub (f := fun l => (up l).getD 0) (nd.sublist List.filter_sublist) (fun a ha b hb e => ?_) fun a ha => ?_) (len_map_sub (f := fun v => (lo v).getD 0) (nd.sublist List.filter_sublist) (fun a ha b hb e => ?_) fun a ha => ?_)
    · rw [List.mem_filter] at ha hb
      obtain ⟨u, h1, _⟩ := k.c1 a ha.2
      obtain ⟨w, h2, _⟩ := k.c1 b hb.2
      have e : (up a).getD 0 = (up b).getD 0 := e
      rw [h1, h2] at e
      have e : u = w := e
      have q1 := (m.inv u a).mpr h1
      rw [e, (m.inv w b).mpr h2] at q1
      exact (Option.some.inj q1).symm
    · rw [List.mem_filter] at ha
      obtain ⟨u, h1, _⟩ := k.c1 a ha.2
      have q1 := (m.inv u a).mpr h1
      show (up a).getD 0 ∈ ws.filter (loC lo cl)
      rw [h1, List.mem_filter]
      refine ⟨(m.dom u a q1).1, ?_⟩
      show loC lo cl u = true
      unfold loC
      rw [q1]
      exact ha.2
    · rw [List.mem_filter] at ha hb
      have e : (lo a).getD 0 = (lo b).getD 0 := e
      obtain ⟨_, ha⟩ := ha
      obtain ⟨_, hb⟩ := hb
      unfold loC at ha hb
      cases q1 : lo a with
      | none => rw [q1] at ha; cases ha
      | some l =>
        cases q2 : lo b with
        | none => rw [q2] at hb; cases hb
        | some l2 =>
          rw [q1, q2] at e
          have e : l = l2 := e
          have z1 := (m.inv a l).mp q1
          rw [e, (m.inv b l2).mp q2] at z1
          exact (Option.some.inj z1).symm
    · rw [List.mem_filter] at ha
      obtain ⟨_, ha⟩ := ha
      unfold loC at ha
      cases q1 : lo a with
      | none => rw [q1] at ha; cases ha
      | some l =>
        rw [q1] at ha
        exact List.mem_filter.mpr ⟨(m.dom a l q1).2.1, ha⟩
  omega
theorem apart_none (g : Good ws ls) (n : NfOk ws ls nf) (m : Mt ws ws lo up) (k : Kn nf ws lo up cl) {x y : Int} (hx : x ∈ ws) (ax : apB lo cl x = true) (ay : apB lo cl y = true) (ne : x ≠ y) : ¬ Dn ls x y := fun d => by
  have hn := near_of n d ne
  unfold apB at ax ay
  rw [Bool.and_eq_true] at ax ay
  have : cl y = true := by
    cases e : lo x with
    | none => exact k.c2 x hx e y hn
    | some l =>
      rw [e] at ax
      obtain ⟨u, h1, h2⟩ := k.c1 l ax.2
      have q := (m.inv x l).mp e
      rw [q] at h1
      cases Option.some.inj h1
      exact h2 y hn
  rw [this] at ay
  cases ay.1
theorem in_chain (m : Mt ws ws lo up) {c : List Int} {f l x : Int} (h : ChainOf up f c) (hl : l ∈ c) (e : lo x = some l) : x ∈ c := by
  obtain ⟨i, hi, ei⟩ := List.getElem_of_mem hl
  have := h.2 i l (List.getElem?_eq_some_iff.mpr ⟨hi, ei⟩)
  rw [(m.inv x l).mp e] at this
  exact List.mem_of_getElem? this
theorem CoverIs.ok {cs : List (List Int)} {ap : List Int} (g : Good ws ls) (h : CoverIs ws ls cs ap nf lo up cl) : CovOk ws ls cs ap := by
  have k := h.run.kn
  have m := h.mt
  have n := h.nfo
  have nd := rising_nodup g.inc
  have ndf : (ws.filter (freeB lo)).Nodup := nd.sublist List.filter_sublist
  have incf : (ws.filter (freeB lo)).Pairwise (· < ·) := g.inc.sublist List.filter_sublist
  have free : ∀ {f : Int}, f ∈ ws.filter (freeB lo) → f ∈ ws ∧ lo f = none := fun {f} hf => by
    rw [List.mem_filter] at hf
    refine ⟨hf.1, ?_⟩
    have := hf.2
    unfold freeB at this
    exact Option.isNone_iff_eq_none.mp this
  have of : ∀ {i : Nat} {c : List Int}, cs[i]? = some c → ∃ f, (ws.filter (freeB lo))[i]? = some f ∧ ChainOf up f c := fun {i c} hc => by
    have hi : i < (ws.filter (freeB lo)).length := by rw [← h.chs.1]; exact (List.getElem?_eq_some_iff.mp hc).1
    exact ⟨_, List.getElem?_eq_getElem hi, h.chs.2 i _ c (List.getElem?_eq_getElem hi) hc⟩
  have ofm : ∀ {c : List Int}, c ∈ cs → ∃ f, f ∈ ws ∧ lo f = none ∧ ChainOf up f c := fun {c} hc => by
    obtain ⟨i, hi, e⟩ := List.getElem_of_mem hc
    obtain ⟨f, h1, h2⟩ := of (List.getElem?_eq_some_iff.mpr ⟨hi, e⟩)
    obtain ⟨a, b⟩ := free (List.mem_of_getElem? h1)
    exact ⟨f, a, b, h2⟩
  have next : ∀ {c : List Int}, c ∈ cs → ∀ (i : Nat) (x y : Int), c[i]? = some x → c[i + 1]? = some y → lo y = some x := fun {c} hc i x y h1 h2 => by
    obtain ⟨f, _, _, q⟩ := ofm hc
    rw [q.2 i x h1] at h2
    exact (m.inv y x).mpr h2
  have upc : ∀ c ∈ cs, c.Pairwise (· < ·) := fun c hc => by
    rw [List.pairwise_iff_getElem]
    intro i j hi hj hij
    have : ∀ d i (hi : i < c.length) (hj : i + d + 1 < c.length), c[i] < c[i + d + 1] := fun d => by
      induction d with
      | zero =>
        intro i hi hj
        have := (m.dom _ _ (next hc i _ _ (List.getElem?_eq_getElem hi) (List.getElem?_eq_getElem hj))).2.2
        exact this
      | succ d ih =>
        intro i hi hj
        have a := ih i hi (by omega)
        have b := (m.dom _ _ (next hc (i + d + 1) _ _ (List.getElem?_eq_getElem (by omega)) (List.getElem?_eq_getElem hj))).2.2
        have b : c[i + d + 1] < c[i + (d + 1) + 1] := b
        omega
    have q := this (j - i - 1) i hi (by omega)
    have e : i + (j - i - 1) + 1 = j := by omega
    simp only [e] at q
    exact q
  have memc : ∀ c ∈ cs, ∀ x ∈ c, x ∈ ws := fun c hc x hx => by
    obtain ⟨f, hf, _, q⟩ := ofm hc
    obtain ⟨i, hi, e⟩ := List.getElem_of_mem hx
    cases i with
    | zero =>
      have := q.1
      rw [List.getElem?_eq_getElem hi, e] at this
      rw [Option.some.inj this]
      exact hf
    | succ i =>
      have := next hc i _ x (List.getElem?_eq_getElem (by omega)) (List.getElem?_eq_some_iff.mpr ⟨hi, e⟩)
      exact (m.dom _ _ this).1
  have all : ∀ (i : Nat) (x : Int), ws[i]? = some x → ∃ c ∈ cs, x ∈ c := fun i => by
    induction i using Nat.strongRecOn with
    | ind i ih =>
      intro x hx
      have hxw : x ∈ ws := List.mem_of_getElem? hx
      cases e : lo x with
      | none =>
        have hf : x ∈ ws.filter (freeB lo) := List.mem_filter.mpr ⟨hxw, by unfold freeB; rw [e]; rfl⟩
        obtain ⟨j, hj, ej⟩ := List.getElem_of_mem hf
        have hc := List.getElem?_eq_getElem (l := cs) (i := j) (by rw [h.chs.1]; exact hj)
        have q := h.chs.2 j x _ (List.getElem?_eq_some_iff.mpr ⟨hj, ej⟩) hc
        exact ⟨_, List.mem_of_getElem? hc, List.mem_of_getElem? q.1⟩
      | some l =>
        obtain ⟨_, lw, lx⟩ := m.dom x l e
        obtain ⟨j, hj, ej⟩ := List.getElem_of_mem lw
        obtain ⟨hi, ei⟩ := List.getElem?_eq_some_iff.mp hx
        have hji : j < i := by
          rcases Nat.lt_trichotomy j i with q | q | q
          · exact q
          · subst q
            rw [ej] at ei
            omega
          · have := List.pairwise_iff_getElem.mp g.inc i j hi hj q
            rw [ej, ei] at this
            omega
        obtain ⟨c, hc, lc⟩ := ih j hji l (List.getElem?_eq_some_iff.mpr ⟨hj, ej⟩)
        obtain ⟨f, _, _, q⟩ := ofm hc
        exact ⟨c, hc, in_chain m q lc e⟩
  refine ⟨?_, fun x => ⟨fun hx => ?_, fun hx => ?_⟩, fun c hc e => ?_, upc, fun c hc i x y h1 h2 => near_iff n (k.c3 y x (next hc i x y h1 h2)), ?_, ?_, ?_, ?_, ?_⟩
  · rw [List.Nodup, List.pairwise_flatten]
    refine ⟨fun c hc => rising_nodup (upc c hc), ?_⟩
    rw [List.pairwise_iff_getElem]
    intro i j hi hj hij x hx y hy e
    subst e
    obtain ⟨f, f1, f2⟩ := of (List.getElem?_eq_getElem hi)
    obtain ⟨f', f1', f2'⟩ := of (List.getElem?_eq_getElem hj)
    obtain ⟨a, ha, ea⟩ := List.getElem_of_mem hx
    obtain ⟨b, hb, eb⟩ := List.getElem_of_mem hy
    have e := chain_root m.inv f2 f2' (free (List.mem_of_getElem? f1)).2 (free (List.mem_of_getElem? f1')).2 a b x (List.getElem?_eq_some_iff.mpr ⟨ha, ea⟩) (List.getElem?_eq_some_iff.mpr ⟨hb, eb⟩)
    subst e
    obtain ⟨p1, p2⟩ := List.getElem?_eq_some_iff.mp f1
    obtain ⟨q1, q2⟩ := List.getElem?_eq_some_iff.mp f1'
    have := (List.getElem_inj ndf).mp (p2.trans q2.symm)
    omega
  · obtain ⟨c, hc, hx⟩ := List.mem_flatten.mp hx
    exact memc c hc x hx
  · obtain ⟨i, hi, e⟩ := List.getElem_of_mem hx
    obtain ⟨c, hc, h2⟩ := all i x (List.getElem?_eq_some_iff.mpr ⟨hi, e⟩)
    exact List.mem_flatten.mpr ⟨c, hc, h2⟩
  · obtain ⟨f, _, _, q⟩ := ofm hc
    have := q.1
    rw [e] at this
    cases this
  · intro i j c d x y hij hc hd h1 h2
    obtain ⟨f, f1, f2⟩ := of hc
    obtain ⟨f', f1', f2'⟩ := of hd
    rw [f2.1] at h1
    rw [f2'.1] at h2
    cases Option.some.inj h1
    cases Option.some.inj h2
    obtain ⟨p1, p2⟩ := List.getElem?_eq_some_iff.mp f1
    obtain ⟨q1, q2⟩ := List.getElem?_eq_some_iff.mp f1'
    have := List.pairwise_iff_getElem.mp incf i j p1 q1 hij
    rw [p2, q2] at this
    exact this
  · rw [h.ap, h.chs.1]
    exact few_apart g n m k
  · intro x hx
    rw [h.ap] at hx
    exact (List.mem_filter.mp hx).1
  · rw [h.ap]
    exact g.inc.sublist List.filter_sublist
  · intro x hx y hy ne
    rw [h.ap, List.mem_filter] at hx hy
    exact apart_none g n m k hx.1 hx.2 hy.2 ne
theorem CovOk.size {cs : List (List Int)} {ap : List Int} (g : Good ws ls) (h : CovOk ws ls cs ap) : cs.flatten.length = ws.length := Nat.le_antisymm (length_sub h.nd fun x hx => (h.mem x).mp hx) (length_sub (rising_nodup g.inc) fun x hx => (h.mem x).mpr hx)
end
end Fw

set_option Elab.async false
set_option linter.all false
set_option maxRecDepth 100000
set_option maxHeartbeats 4000000
namespace Fw
open PySem L2 RZ RT
structure PairC (K : PySem.W.Frag) : Prop where
  cl : Cls K (He.ga K "Pairing")
  n1 : NoAttr K (He.ga K "Pairing") "near"
  n2 : NoAttr K (He.ga K "Pairing") "lower_of"
  n3 : NoAttr K (He.ga K "Pairing") "upper_of"
  n4 : NoAttr K (He.ga K "Pairing") "closed"
/-- the object at x and its four dicts -/
def PO (K : PySem.W.Frag) (H : Hp) (x N L U C : Addr) : Prop := ∃ (dx : Addr) (fs : List (Str × V)), H x = some (.ins (He.ga K "Pairing") dx fs) ∧ fs.lookup ("near" : Str) = some (.ref N) ∧ fs.lookup ("lower_of" : Str) = some (.ref L) ∧ fs.lookup ("upper_of" : Str) = some (.ref U) ∧ fs.lookup ("closed" : Str) = some (.ref C) ∧
  fs.lookup ("pair" : Str) = none ∧ fs.lookup ("give_way" : Str) = none ∧ fs.lookup ("chain" : Str) = none ∧ fs.lookup ("stands_apart" : Str) = none
/-- all but the three that change stands -/
def Kx (L U C : Addr) (H H' : Hp) : Prop := ∀ b o, H b = some o → b ≠ L → b ≠ U → b ≠ C → H' b = some o
theorem Kx.refl {L U C : Addr} {H : Hp} : Kx L U C H H := fun _ _ h _ _ _ => h
theorem Kx.trans {L U C : Addr} {H H1 H2 : Hp} (a : Kx L U C H H1) (b : Kx L U C H1 H2) : Kx L U C H H2 := fun x o h h1 h2 h3 => b x o (a x o h h1 h2 h3) h1 h2 h3
theorem Kx.same {L U C : Addr} {H H' : Hp} (s : Same H H') : Kx L U C H H' := fun b o h _ _ _ => s b o h
theorem Kx.up {L U C q : Addr} {H H' : Hp} {o : HO} (k : Kx L U C H H') (h : q = L ∨ q = U ∨ q = C) : Kx L U C H (upd H' q o) := fun b u e h1 h2 h3 => updN (by rcases h with rfl | rfl | rfl; exact h1; exact h2; exact h3) (k b u e h1 h2 h3)
theorem Gw.step2 {ws S : List Int} {v l u : Int} {cf : List (Int × Int)} {lo0 up0 lo up : Int → Option Int} {i : Nat} (m0 : Mt ws S lo0 up0) (c : Cf ws v lo0 cf) (hv : lo0 v = none) (g : Gw ws S v cf lo0 lo up i l) (hu : cf[i]? = some (l, u)) :
    (lo u = none ∧ Mt ws (S ++ [v]) (setM lo u l) (setM up l u) ∧ u = v) ∨ ∃ j l', j < i ∧ lo u = some l' ∧ Gw ws S v cf lo0 (setM lo u l) (setM up l u) j l' := by
  rcases g.step m0 c hv hu with ⟨h1, h2⟩ | h
  · refine .inl ⟨h1, h2, ?_⟩
    obtain ⟨_, _, _, h⟩ := c.ok i l u hu
    rcases h with h | ⟨j2, l2, u2, q1, q2, q3⟩
    · exact h
    · exfalso
      rcases g.old u with e | ⟨j, l', u', e1, e2, e3⟩
      · rw [h1, q3] at e
        cases e
      · rw [q3] at e1
        cases Option.some.inj e1
        have := cf_inj c.nd q2 e2
        omega
  · exact .inr h
structure PS (K : PySem.W.Frag) (H : Hp) (x N L U C : Addr) (ws : List Int) (nf : Int → List Int) (lo up : Int → Option Int) (cl : Int → Bool) (b : Nat) : Prop where
  po : PO K H x N L U C
  hL : ∃ lk, H L = some (.dK lk) ∧ lk.length ≤ b ∧ ∀ k, valV lk (.inl k) = (lo k).map V.int
  hU : ∃ uk, H U = some (.dK uk) ∧ uk.length ≤ b ∧ ∀ k, valV uk (.inl k) = (up k).map V.int
  hC : ∃ ck, H C = some (.dK ck) ∧ ck.length ≤ b ∧ ∀ k, (valV ck (.inl k)).isSome = cl k
  hN : ∃ nk, H N = some (.dK nk) ∧ ∀ w ∈ ws, ∃ l, valV nk (.inl w) = some (.ref l) ∧ H l = some (.lst ((nf w).map V.int)) ∧ (nf w).length ≤ 1000 ∧ ∀ u ∈ nf w, u ∈ ws ∧ u < w
  ne : L ≠ U ∧ L ≠ C ∧ U ≠ C ∧ N ≠ L ∧ N ≠ U ∧ N ≠ C
theorem PS.keep {K : PySem.W.Frag} {H H' : Hp} {x N L U C : Addr} {ws : List Int} {nf : Int → List Int} {lo up : Int → Option Int} {cl : Int → Bool} {b : Nat} (p : PS K H x N L U C ws nf lo up cl b) (k : Kx L U C H H') (eL : H' L = H L) (eU : H' U = H U) (eC : H' C = H C) : PS K H' x N L U C ws nf lo up cl b := by
  obtain ⟨⟨dx, fs, hx, r⟩, hL, hU, hC, ⟨nk, hN, near⟩, ne⟩ := p
  obtain ⟨lk, gL, _⟩ := id hL
  obtain ⟨uk, gU, _⟩ := id hU
  obtain ⟨ck, gC, _⟩ := id hC
  refine ⟨⟨dx, fs, k _ _ hx (ne_of hx gL (by intro z; cases z)) (ne_of hx gU (by intro z; cases z)) (ne_of hx gC (by intro z; cases z)), r⟩, by rw [eL]; exact hL, by rw [eU]; exact hU, by rw [eC]; exact hC, ⟨nk, k _ _ hN ne.2.2.2.1 ne.2.2.2.2.1 ne.2.2.2.2.2, fun w hw => ?_⟩, ne⟩
  obtain ⟨l, h1, h2, h3, h4⟩ := near w hw
  exact ⟨l, h1, k _ _ h2 (ne_of h2 gL (by intro z; cases z)) (ne_of h2 gU (by intro z; cases z)) (ne_of h2 gC (by intro z; cases z)), h3, h4⟩
theorem PS.same {K : PySem.W.Frag} {H H' : Hp} {x N L U C : Addr} {ws : List Int} {nf : Int → List Int} {lo up : Int → Option Int} {cl : Int → Bool} {b : Nat} (p : PS K H x N L U C ws nf lo up cl b) (s : Same H H') : PS K H' x N L U C ws nf lo up cl b := by
  obtain ⟨lk, gL, _⟩ := p.hL
  obtain ⟨uk, gU, _⟩ := p.hU
  obtain ⟨ck, gC, _⟩ := p.hC
  exact p.keep (.same s) (by rw [gL, s _ _ gL]) (by rw [gU, s _ _ gU]) (by rw [gC, s _ _ gC])
theorem PS.le {K : PySem.W.Frag} {H : Hp} {x N L U C : Addr} {ws : List Int} {nf : Int → List Int} {lo up : Int → Option Int} {cl : Int → Bool} {b b' : Nat} (p : PS K H x N L U C ws nf lo up cl b) (h : b ≤ b') : PS K H x N L U C ws nf lo up cl b' := by
  obtain ⟨po, ⟨lk, l1, l2, l3⟩, ⟨uk, u1, u2, u3⟩, ⟨ck, c1, c2, c3⟩, hN, ne⟩ := p
  exact ⟨po, ⟨lk, l1, Nat.le_trans l2 h, l3⟩, ⟨uk, u1, Nat.le_trans u2 h, u3⟩, ⟨ck, c1, Nat.le_trans c2 h, c3⟩, hN, ne⟩
/-- a new thing, or one that is none of these -/
theorem PS.new {K : PySem.W.Frag} {H : Hp} {x N L U C q : Addr} {ws : List Int} {nf : Int → List Int} {lo up : Int → Option Int} {cl : Int → Bool} {b : Nat} {o : HO} (p : PS K H x N L U C ws nf lo up cl b) (h : H q = none) : PS K (upd H q o) x N L U C ws nf lo up cl b := p.same (fun b u e => updN (ne_of_none e h) e)
section
variable {K : PySem.W.Frag} {H : Hp} {Q : VK} {x N L U C : Addr} {ws : List Int} {nf : Int → List Int} {lo up : Int → Option Int} {cl : Int → Bool} {b : Nat} {σ : L2.St} {i : Nat}
theorem PS.fL (pc : PairC K) (p : PS K H x N L U C ws nf lo up cl b) (e : σ[i]? = some (some (.ref x))) (q : Q (.ref L) H) : tFld K (tVar i) "lower_of" σ H Q := by
  obtain ⟨dx, fs, hx, h1, h2, h3, h4, _⟩ := p.po
  exact ⟨_, e, x, _, dx, fs, _, rfl, hx, pc.cl, pc.n2, h2, q⟩
theorem PS.fU (pc : PairC K) (p : PS K H x N L U C ws nf lo up cl b) (e : σ[i]? = some (some (.ref x))) (q : Q (.ref U) H) : tFld K (tVar i) "upper_of" σ H Q := by
  obtain ⟨dx, fs, hx, h1, h2, h3, h4, _⟩ := p.po
  exact ⟨_, e, x, _, dx, fs, _, rfl, hx, pc.cl, pc.n3, h3, q⟩
theorem PS.fC (pc : PairC K) (p : PS K H x N L U C ws nf lo up cl b) (e : σ[i]? = some (some (.ref x))) (q : Q (.ref C) H) : tFld K (tVar i) "closed" σ H Q := by
  obtain ⟨dx, fs, hx, h1, h2, h3, h4, _⟩ := p.po
  exact ⟨_, e, x, _, dx, fs, _, rfl, hx, pc.cl, pc.n4, h4, q⟩
theorem PS.fN (pc : PairC K) (p : PS K H x N L U C ws nf lo up cl b) (e : σ[i]? = some (some (.ref x))) (q : Q (.ref N) H) : tFld K (tVar i) "near" σ H Q := by
  obtain ⟨dx, fs, hx, h1, h2, h3, h4, _⟩ := p.po
  exact ⟨_, e, x, _, dx, fs, _, rfl, hx, pc.cl, pc.n1, h1, q⟩
end
theorem map_setM {kvs : List (Key × V)} {m : Int → Option Int} {k v : Int} (h : ∀ j, valV kvs (.inl j) = (m j).map V.int) : ∀ j, valV (putK kvs (.inl k) (.int v)) (.inl j) = (setM m k v j).map V.int := fun j => by
  rw [valV_put]
  by_cases e : j = k
  · subst e
    rw [if_pos rfl, setM_eq]
    rfl
  · rw [if_neg (fun z => e (Sum.inl.inj z)), setM_ne e]
    exact h j
def sp_Pairing_give_way (K : PySem.W.Frag) : Sp := fun vs H Q _ => ∃ (x N L U C cA : Addr) (ws S : List Int) (v l : Int) (cf : List (Int × Int)) (nf : Int → List Int) (cl : Int → Bool) (lo0 up0 : Int → Option Int) (b i : Nat), vs = [.ref x, .int l, .ref cA] ∧ PairC K ∧ PS K H x N L U C ws nf lo0 up0 cl b ∧ Mt ws S lo0 up0 ∧ Cf ws v lo0 cf ∧ lo0 v = none ∧ Gw ws S v cf lo0 lo0 up0 i l ∧ H cA = some (.dK (kvOf cf)) ∧ cA ≠ L ∧ cA ≠ U ∧ cA ≠ C ∧ b + i < 1000000 ∧
  ∀ (lo up : Int → Option Int) (H' : Hp), Kx L U C H H' → PS K H' x N L U C ws nf lo up cl (b + i + 1) → Mt ws (S ++ [v]) lo up → H' C = H C → GwR cf lo0 up0 l lo up → lo v ≠ none → Q .non H'
abbrev N_Pairing_give_way : List Str := ["self", "free", "came_from", "lower", "upper", "given_up"]
def t_Pairing_give_way_body (K : PySem.W.Frag) : TS := (tSeq (tAsg (tDGet (tVar 2) (tVar 3)) (gName 4))
    (tSeq (tAsg (tDGet1 (tFld K (tVar 0) "lower_of") (tVar 4)) (gName 5))
    (tSeq (sDPut (tFld K (tVar 0) "lower_of") (tVar 4) (tVar 3))
    (tSeq (sDPut (tFld K (tVar 0) "upper_of") (tVar 3) (tVar 4))
    (tAsg (tVar 5) (gName 3))))))
def t_Pairing_give_way (K : PySem.W.Frag) : TS := (tSeq (tAsg (tVar 1) (gName 3))
    (tWhile (tTest (tOp fNotN (tVar 3) (tC .non))) (t_Pairing_give_way_body K)))
/-- the index that a loop's next one stands at -/
theorem len_Pairing_give_way {K : PySem.W.Frag} {vs : List V} {H : Hp} {Q : VK} {E : XK} (h : sp_Pairing_give_way K vs H Q E) : vs.length = 3 := by
  obtain ⟨_, _, _, _, _, _, _, _, _, _, _, _, _, _, _, _, _, rfl, _⟩ := h
  rfl
/-- where an int stands in cf -/
def ixOf (cf : List (Int × Int)) (v : V) : Nat := match v with
  | .int l => (cf.map (·.1)).idxOf l + 1
  | _ => 0
theorem ix_at {cf : List (Int × Int)} (nd : (cf.map (·.1)).Nodup) {i : Nat} {l u : Int} (h : cf[i]? = some (l, u)) : ixOf cf (.int l) = i + 1 := by
  show (cf.map (·.1)).idxOf l + 1 = i + 1
  obtain ⟨hi, e⟩ := List.getElem?_eq_some_iff.mp h
  have m : l ∈ cf.map (·.1) := List.mem_map.mpr ⟨(l, u), List.mem_of_getElem? h, rfl⟩
  have hlt := List.idxOf_lt_length_of_mem m
  have e2 : (cf.map (·.1))[(cf.map (·.1)).idxOf l] = l := List.getElem_idxOf hlt
  have hlt2 : (cf.map (·.1)).idxOf l < cf.length := by rw [List.length_map] at hlt; exact hlt
  rw [List.getElem_map] at e2
  have := cf_inj nd (i := (cf.map (·.1)).idxOf l) (j := i) (l := l) (u := (cf[(cf.map (·.1)).idxOf l]).2) (u' := u) (List.getElem?_eq_some_iff.mpr ⟨hlt2, Prod.ext e2 rfl⟩) h
  omega
def slotV (i : Nat) (σ : L2.St) : V := (σ.getD i none).getD .non
theorem pure_Pairing_give_way {K : PySem.W.Frag} {vs : List V} {H : Hp} {Q : VK} {E : XK} (h : sp_Pairing_give_way K vs H Q E) : t_Pairing_give_way K { nx := fun _ H' => Q .non H', rt := Q } (start N_Pairing_give_way vs) H := by
  obtain ⟨x, N, L, U, C, cA, ws, S, v, l0, cf, nf, cl, lo0, up0, b, i0, rfl, pc, ps, m0, c, hv, g0, hA, nL, nU, nC, hb, k⟩ := h
  refine ⟨_, rfl, ?_⟩
  show tWhile _ (t_Pairing_give_way_body K) _ [some (.ref x), some (.int l0), some (.ref cA), some (.int l0), none, none] H
  obtain ⟨ne1, ne2, ne3, ne4, ne5, ne6⟩ := id ps.ne
  refine while_by (fun σ H' => ∃ (y z4 z5 : Option V) (i : Nat), σ = [some (.ref x), some (.int l0), some (.ref cA), y, z4, z5] ∧ Kx L U C H H' ∧ H' C = H C ∧ i ≤ i0 ∧
      ((∃ (l : Int) (lo up : Int → Option Int), y = some (.int l) ∧ PS K H' x N L U C ws nf lo up cl (b + (i0 - i)) ∧ Gw ws S v cf lo0 lo up i l ∧ ∀ a b, GwR cf lo up l a b → GwR cf lo0 up0 l0 a b) ∨ (y = some .non ∧ ∃ lo up, PS K H' x N L U C ws nf lo up cl (b + i0 + 1) ∧ Mt ws (S ++ [v]) lo up ∧ GwR cf lo0 up0 l0 lo up ∧ lo v ≠ none)))
    (fun σ _ => ixOf cf (slotV 3 σ)) ⟨_, none, none, i0, rfl, .refl, rfl, Nat.le_refl _, .inl ⟨l0, lo0, up0, rfl, ps.le (by omega), g0, fun _ _ z => z⟩⟩ ?_ (fun σ H Q Q' f h => by
    obtain ⟨v, e, r, b, e3, q⟩ := h
    exact ⟨v, e, r, b, e3, f _ _ q⟩)
  rintro σ H1 ⟨y, z4, z5, i, rfl, k1, kC, hi, h⟩
  rcases h with ⟨l, lo, up, rfl, p, g, tr⟩ | ⟨rfl, lo, up, p, m, gr, hvv⟩
  · obtain ⟨u, hu⟩ := g.at_
    refine ⟨_, rfl, rfl, _, rfl, iteT ?_⟩
    have hA1 := k1 _ _ hA nL nU nC
    refine ⟨_, rfl, _, rfl, cA, .int u, rfl, .inl ⟨_, _, .inl hA1, rfl, (kv_val c.nd hu).symm⟩, ?_⟩
    obtain ⟨lk, gL, lL, vL⟩ := p.hL
    obtain ⟨uk, gU, lU, vU⟩ := p.hU
    obtain ⟨dx, fs, hx, f1, f2, f3, f4, f5⟩ := p.po
    refine ⟨_, rfl, x, _, dx, fs, _, rfl, hx, pc.cl, pc.n2, f2, L, rfl, .inl ⟨_, .inl gL⟩, _, rfl, _, .inl ⟨_, .inl u, .inl gL, rfl, rfl⟩, ?_⟩
    rw [vL u]
    refine ⟨_, rfl, _, rfl, x, _, dx, fs, _, rfl, hx, pc.cl, pc.n2, f2, _, rfl, L, _, rfl, .inl ⟨_, .inl u, gL, rfl, Nat.lt_of_le_of_lt (show lk.length ≤ 2000000 by omega) (by decide), rfl⟩, ?_⟩
    have k2 : Kx L U C H1 (upd H1 L (.dK (putK lk (.inl u) (.int l)))) := Kx.refl.up (.inl rfl)
    have hU2 : upd H1 L (.dK (putK lk (.inl u) (.int l))) U = some (.dK uk) := updN (fun z => ne1 z.symm) gU
    have hx2 : upd H1 L (.dK (putK lk (.inl u) (.int l))) x = some (.ins (He.ga K "Pairing") dx fs) := updN (ne_of hx gL (by intro z; cases z)) hx
    refine ⟨_, rfl, _, rfl, x, _, dx, fs, _, rfl, hx2, pc.cl, pc.n3, f3, _, rfl, U, _, rfl, .inl ⟨_, .inl l, hU2, rfl, Nat.lt_of_le_of_lt (show uk.length ≤ 2000000 by omega) (by decide), rfl⟩, ?_⟩
    have k3 : Kx L U C H1 (upd (upd H1 L (.dK (putK lk (.inl u) (.int l)))) U (.dK (putK uk (.inl l) (.int u)))) := k2.up (.inr (.inl rfl))
    generalize hH3 : upd (upd H1 L (.dK (putK lk (.inl u) (.int l)))) U (.dK (putK uk (.inl l) (.int u))) = H3 at k3 ⊢
    have p3 : PS K H3 x N L U C ws nf (setM lo u l) (setM up l u) cl (b + (i0 - i) + 1) := by
      obtain ⟨ck, gC, lC, vC⟩ := p.hC
      obtain ⟨nk, gN, near⟩ := p.hN
      refine ⟨⟨dx, fs, k3 _ _ hx (ne_of hx gL (by intro z; cases z)) (ne_of hx gU (by intro z; cases z)) (ne_of hx gC (by intro z; cases z)), f1, f2, f3, f4, f5⟩, ⟨putK lk (.inl u) (.int l), ?_, ?_, map_setM vL⟩, ⟨putK uk (.inl l) (.int u), ?_, ?_, map_setM vU⟩, ⟨ck, ?_, by omega, vC⟩, ⟨nk, k3 _ _ gN ne4 ne5 ne6, fun w hw => ?_⟩, ps.ne⟩
      · rw [← hH3]
        exact updN ne1 updS
      · have := length_putK lk (.inl u : Key) (.int l)
        omega
      · rw [← hH3]
        exact updS
      · have := length_putK uk (.inl l : Key) (.int u)
        omega
      · rw [← hH3]
        exact updN (fun z => ne3 z.symm) (updN (fun z => ne2 z.symm) gC)
      · obtain ⟨q, h1, h2, h3⟩ := near w hw
        exact ⟨q, h1, k3 _ _ h2 (ne_of h2 gL (by intro z; cases z)) (ne_of h2 gU (by intro z; cases z)) (ne_of h2 gC (by intro z; cases z)), h3⟩
    have kC3 : H3 C = H C := by
      rw [← hH3, upd_ne (fun z => ne3 z.symm), upd_ne (fun z => ne2 z.symm)]
      exact kC
    refine ⟨_, rfl, ?_⟩
    have mu : ixOf cf (.int l) = i + 1 := ix_at c.nd hu
    rcases g.step2 m0 c hv hu with ⟨hn, mt, euv⟩ | ⟨j, l', hj, hs, g'⟩
    · rw [hn]
      refine ⟨⟨_, _, _, i, rfl, k1.trans k3, kC3, hi, .inr ⟨rfl, _, _, p3.le (by omega), mt, tr _ _ (.done hu hn), by rw [euv, setM_eq]; exact fun z => nomatch z⟩⟩, ?_⟩
      show (0 : Nat) < ixOf cf (.int l)
      omega
    · rw [hs]
      obtain ⟨u', hu'⟩ := g'.at_
      refine ⟨⟨_, _, _, j, rfl, k1.trans k3, kC3, by omega, .inl ⟨l', _, _, rfl, p3.le (by omega), g', fun a b z => tr a b (.next hu hs z)⟩⟩, ?_⟩
      show ixOf cf (.int l') < ixOf cf (.int l)
      rw [ix_at c.nd hu', mu]
      omega
  · refine ⟨_, rfl, rfl, _, rfl, iteF ?_⟩
    exact k lo up H1 k1 p m kC gr hvv
end Fw

set_option Elab.async false
set_option linter.all false
set_option maxRecDepth 100000
set_option maxHeartbeats 4000000
namespace Fw
open PySem L2 RZ RT
def sp_Pairing_pair (K : PySem.W.Frag) : Sp := fun vs H Q _ => ∃ (x N L U C : Addr) (ws S : List Int) (v : Int) (nf : Int → List Int) (cl : Int → Bool) (lo up : Int → Option Int) (b : Nat), vs = [.ref x, .int v] ∧ PairC K ∧ PS K H x N L U C ws nf lo up cl b ∧ Mt ws S lo up ∧ v ∈ ws ∧ v ∉ S ∧ (∀ u ∈ S, u ∈ ws) ∧ ws.length ≤ 1000 ∧ b < 900000 ∧
  ∀ (lo' up' : Int → Option Int) (cl' : Int → Bool) (H' : Hp), Kx L U C H H' → PS K H' x N L U C ws nf lo' up' cl' (b + ws.length + 1) → Mt ws (S ++ [v]) lo' up' → PairR nf lo up cl v lo' up' cl' → Q .non H'
abbrev N_Pairing_pair : List Str := ["self", "version", "came_from", "waiting", "upper", "lower"]
def t_Pairing_pair_new (K : PySem.W.Frag) : TS := tCont
def t_Pairing_pair_push (K : PySem.W.Frag) : TS := (tDrop (tBM K "list" rAppend (tVar 3) (tCons (tDGet (tFld K (tVar 0) "upper_of") (tVar 5)) tNil)))
def t_Pairing_pair_for (K : PySem.W.Frag) : TS := (tFor (iList K (tDGet (tFld K (tVar 0) "near") (tVar 4))) (gName 5) (tSeq (tIfS (tOr (tB (tDIn (tVar 5) (tVar 2))) (tB (tDIn (tVar 5) (tFld K (tVar 0) "closed")))) (t_Pairing_pair_new K) tNext)
    (tSeq (sDPut (tVar 2) (tVar 5) (tVar 4))
    (tSeq (tIfS (tB (tDNotIn (tVar 5) (tFld K (tVar 0) "upper_of"))) (tSeq (tDrop (tMeth (He.ga K "Pairing") "give_way" (sp_Pairing_give_way K) [] E0 (tVar 0) (tCons (tVar 5) (tCons (tVar 2) tNil))))
    tRetN) tNext)
    (t_Pairing_pair_push K)))))
def t_Pairing_pair_body (K : PySem.W.Frag) : TS := (tSeq (tAsg (tBM0 K "list" rPop (tVar 3)) (gName 4))
    (t_Pairing_pair_for K))
def t_Pairing_pair_end (K : PySem.W.Frag) : TS := (tDrop (tBM K "dict" rUpdate (tFld K (tVar 0) "closed") (tCons (tVar 2) tNil)))
def t_Pairing_pair (K : PySem.W.Frag) : TS := (tSeq (tAsg tDNewK (gName 2))
    (tSeq (tAsg (tLst (tCons (tVar 1) tNil)) (gName 3))
    (tSeq (tWhile (tTru K (tVar 3)) (t_Pairing_pair_body K))
    (t_Pairing_pair_end K))))
theorem len_Pairing_pair {K : PySem.W.Frag} {vs : List V} {H : Hp} {Q : VK} {E : XK} (h : sp_Pairing_pair K vs H Q E) : vs.length = 2 := by
  obtain ⟨_, _, _, _, _, _, _, _, _, _, _, _, _, rfl, _⟩ := h
  rfl
theorem kv_some {l : Int} : ∀ {cf : List (Int × Int)}, (valV (kvOf cf) (.inl l)).isSome = inK cf l
  | [] => rfl
  | e :: cf => by
    have ih := kv_some (l := l) (cf := cf)
    show (valV ((Sum.inl e.1, V.int e.2) :: kvOf cf) (.inl l)).isSome = ((e.1 :: cf.map (·.1)).contains l)
    by_cases q : e.1 = l
    · unfold valV
      rw [List.find?_cons_of_pos (by simp [q]), q, List.contains_cons]
      simp
    · unfold valV at ih ⊢
      rw [List.find?_cons_of_neg (by simp [q]), ih, List.contains_cons]
      have : (l == e.1) = false := by simp; exact fun z => q z.symm
      rw [this, Bool.false_or]
      rfl
theorem val_merge {k : Key} : ∀ (ys xs : List (Key × V)), (valV (mergeK xs ys) k).isSome = ((valV ys k).isSome || (valV xs k).isSome)
  | [], xs => rfl
  | (a, v) :: ys, xs => by
    have ih := val_merge (k := k) ys (putK xs a v)
    show (valV (mergeK (putK xs a v) ys) k).isSome = _
    rw [ih, valV_put]
    by_cases q : k = a
    · subst q
      rw [if_pos rfl]
      have : valV ((k, v) :: ys) k = some v := by
        unfold valV
        rw [List.find?_cons_of_pos (by simp)]
        rfl
      rw [this]
      exact Bool.or_true _
    · rw [if_neg q]
      have : valV ((a, v) :: ys) k = valV ys k := by
        unfold valV
        rw [List.find?_cons_of_neg (by simp; exact fun z => q z.symm)]
      rw [this]
/-- the search's state: what stood stands, came_from and waiting are new -/
structure Se (H : Hp) (cA W : Addr) (ws : List Int) (v : Int) (nf : Int → List Int) (lo up : Int → Option Int) (cl : Int → Bool) (cf : List (Int × Int)) (wt : List Int) (cur : Option (Int × List Int)) (H' : Hp) : Prop where
  k : Same H H'
  hA : H' cA = some (.dK (kvOf cf))
  hW : H' W = some (.lst (wt.map V.int))
  c : Cf ws v lo cf
  n : wt.length ≤ cf.length + 1
  st : Star (stp nf up cl) ([], [v], none) (cf, wt, cur)
  w : ∀ u ∈ wt, u ∈ ws ∧ (u = v ∨ ∃ (j : Nat) (l' u' : Int), cf[j]? = some (l', u') ∧ lo u = some l')
theorem Same.updF {H H' : Hp} {q : Addr} {o : HO} (s : Same H H') (n : H q = none) : Same H (upd H' q o) := fun b u e => updN (ne_of_none e n) (s b u e)
def muP (n : Nat) (cA W : Addr) (H : Hp) : Nat := (match H cA with | some (.dK k) => 2 * (n - k.length) | _ => 0) + (match H W with | some (.lst xs) => xs.length | _ => 0)
theorem mu_eq {n : Nat} {cA W : Addr} {H : Hp} {cf : List (Int × Int)} {wt : List Int} (h1 : H cA = some (.dK (kvOf cf))) (h2 : H W = some (.lst (wt.map V.int))) : muP n cA W H = 2 * (n - cf.length) + wt.length := by
  unfold muP
  rw [h1, h2]
  show 2 * (n - (kvOf cf).length) + (wt.map V.int).length = _
  rw [kv_len, List.length_map]
section
variable {K : PySem.W.Frag} {vs : List V} {H : Hp} {Q : VK} {E : XK}
theorem pure_Pairing_pair (h : sp_Pairing_pair K vs H Q E) : t_Pairing_pair K { nx := fun _ H' => Q .non H', rt := Q } (start N_Pairing_pair vs) H := by
  obtain ⟨x, N, L, U, C, ws, S, v, nf, cl, lo, up, b, rfl, pc, ps, m, hvw, hvS, hS, hn, hb, k⟩ := h
  obtain ⟨ne1, ne2, ne3, ne4, ne5, ne6⟩ := id ps.ne
  obtain ⟨dx, fs, hx, f1, f2, f3, f4, f5, f6, f7, f8⟩ := id ps.po
  obtain ⟨lk, gL, lL, vL⟩ := id ps.hL
  obtain ⟨uk, gU, lU, vU⟩ := id ps.hU
  obtain ⟨ck, gC, lC, vC⟩ := id ps.hC
  obtain ⟨nk, gN, near⟩ := id ps.hN
  have hv : lo v = none := by
    cases e : lo v with
    | none => rfl
    | some l => exact absurd (m.dom v l e).1 hvS
  intro cA nA
  refine ⟨_, rfl, by show (1 : Nat) ≤ sizeLine; decide, fun W nW => ?_⟩
  have nWA : cA ≠ W := ne_of_none updS nW
  have nW0 : H W = none := by
    rw [upd_ne (fun z => nWA z.symm)] at nW
    exact nW
  have aC : C ≠ cA := ne_of_none gC nA
  have s0 : Se H cA W ws v nf lo up cl [] [v] none (upd (upd H cA (.dK [])) W (.lst [.int v])) := ⟨Same.updF (Same.updF (Same.refl _) nA) nW0, updN nWA updS, updS, ⟨.nil, fun i l u e => by cases e⟩, Nat.le_refl _, .refl, fun u hu => ⟨by rw [List.mem_singleton.mp hu]; exact hvw, .inl (List.mem_singleton.mp hu)⟩⟩
  show tSeq (tWhile _ (t_Pairing_pair_body K)) _ _ [some (.ref x), some (.int v), some (.ref cA), some (.ref W), none, none] _
  refine while_by (fun σ H' => ∃ (cf : List (Int × Int)) (wt : List Int) (z4 z5 : Option V), σ = [some (.ref x), some (.int v), some (.ref cA), some (.ref W), z4, z5] ∧ Se H cA W ws v nf lo up cl cf wt none H') (fun _ H' => muP ws.length cA W H') ⟨[], [v], none, none, rfl, s0⟩ ?_ (fun σ H Q Q' f h => by
    obtain ⟨v, e, k, e3, q⟩ := h
    exact ⟨v, e, k, e3, f _ _ q⟩)
  rintro σ H1 ⟨cf, wt, z4, z5, rfl, s⟩
  refine ⟨_, rfl, _, .inl ⟨_, sqL s.hW, rfl⟩, ?_⟩
  cases hwt : wt with
  | nil =>
    subst hwt
    refine iteF ?_
    -- closed.update(came_from)
    have few := s.c.few
    refine ⟨_, rfl, x, _, dx, fs, _, rfl, s.k _ _ hx, pc.cl, pc.n4, f4, .inr (.inr (.inl ⟨rfl, .inl ⟨_, s.k _ _ gC⟩⟩)), _, rfl, C, cA, ck, kvOf cf, rfl, rfl, aC, s.k _ _ gC, s.hA, ?_, ?_⟩
    · rw [kv_len]
      exact Nat.le_trans (show ck.length + cf.length ≤ 1000000 by omega) (by decide)
    have k3 : Kx L U C H (upd H1 C (.dK (mergeK ck (kvOf cf)))) := (Kx.same s.k).up (.inr (.inr rfl))
    refine k lo up (fun k => cl k || inK cf k) _ k3 ?_ ⟨m.inv, fun u l e => by obtain ⟨q1, q2, q3⟩ := m.dom u l e; exact ⟨List.mem_append_left _ q1, q2, q3⟩⟩ (.inr ⟨cf, s.st, rfl, rfl, rfl⟩)
    refine ⟨⟨dx, fs, updN (ne_of hx gC (by intro z; cases z)) (s.k _ _ hx), f1, f2, f3, f4, f5, f6, f7, f8⟩, ⟨lk, updN ne2 (s.k _ _ gL), by omega, vL⟩, ⟨uk, updN ne3 (s.k _ _ gU), by omega, vU⟩, ⟨_, updS, ?_, fun j => ?_⟩, ⟨nk, updN ne6 (s.k _ _ gN), fun w hw => ?_⟩, ps.ne⟩
    · have := length_mergeK (kvOf cf) ck
      rw [kv_len] at this
      omega
    · rw [val_merge, ← vC j, kv_some, Bool.or_comm]
    · obtain ⟨q, h1, h2, h3⟩ := near w hw
      exact ⟨q, h1, updN (ne_of h2 gC (by intro z; cases z)) (s.k _ _ h2), h3⟩
  | cons w0 wr =>
    -- upper = waiting.pop()
    obtain ⟨wt', up1, hsplit⟩ : ∃ wt' up1, wt = wt' ++ [up1] := by
      rw [hwt]
      exact ⟨(w0 :: wr).dropLast, (w0 :: wr).getLast (by simp), (List.dropLast_concat_getLast (by simp)).symm⟩
    rw [← hwt]
    clear hwt w0 wr
    subst hsplit
    have tr : (!((wt' ++ [up1]).map V.int).isEmpty) = true := by
      cases wt' <;> rfl
    rw [tr]
    refine iteT ?_
    refine ⟨_, rfl, .inl ⟨rfl, _, sqL s.hW⟩, W, _, .int up1, rfl, rfl, s.hW, ?_, ?_⟩
    · rw [List.map_append, List.length_append]
      show (wt'.map V.int ++ [V.int up1])[(wt'.map V.int).length + 1 - 1]? = _
      rw [Nat.add_sub_cancel, List.getElem?_append_right (Nat.le_refl _), Nat.sub_self]
      rfl
    have edl : ((wt' ++ [up1]).map V.int).dropLast = wt'.map V.int := by
      rw [List.map_append, List.map_singleton, List.dropLast_concat]
    rw [edl]
    obtain ⟨uw, uok⟩ := s.w up1 (List.mem_append_right _ (List.mem_singleton.mpr rfl))
    obtain ⟨la, n1, n2, n3, n4⟩ := near up1 uw
    have pop : stp nf up cl (cf, wt' ++ [up1], none) = some (cf, wt', some (up1, nf up1)) := by
      rw [stp_none, List.getLast?_concat, List.dropLast_concat]
    have mu0 := mu_eq (n := ws.length) s.hA s.hW
    have s1 : Se H cA W ws v nf lo up cl cf wt' (some (up1, nf up1)) (upd H1 W (.lst (wt'.map V.int))) := ⟨Same.updF s.k nW0, updN nWA s.hA, updS, s.c, (by have := s.n; rw [List.length_append, List.length_singleton] at this; omega), s.st.snoc pop, fun u hu => s.w u (List.mem_append_left _ hu)⟩
    show t_Pairing_pair_for K _ [some (.ref x), some (.int v), some (.ref cA), some (.ref W), some (.int up1), z5] _
    refine ⟨_, rfl, x, _, dx, fs, _, rfl, s1.k _ _ hx, pc.cl, pc.n1, f1, _, rfl, N, .ref la, rfl, .inl ⟨nk, .inl up1, .inl (s1.k _ _ gN), rfl, n1.symm⟩, la, rfl, ⟨_, sqL (s1.k _ _ n2)⟩, ?_⟩
    refine for_list (K := K) (a := la) (xs := (nf up1).map V.int) (fun i σ H' => ∃ (cf' : List (Int × Int)) (wt2 : List Int) (z5 : Option V), σ = [some (.ref x), some (.int v), some (.ref cA), some (.ref W), some (.int up1), z5] ∧ Se H cA W ws v nf lo up cl cf' wt2 (some (up1, (nf up1).drop i)) H' ∧ cf.length ≤ cf'.length ∧ wt2.length + cf.length = wt'.length + cf'.length ∧ (up1 = v ∨ ∃ (j : Nat) (l' u' : Int), cf'[j]? = some (l', u') ∧ lo up1 = some l')) ⟨cf, wt', z5, rfl, s1, Nat.le_refl _, rfl, uok⟩ (fun i σ H' _ ⟨_, _, _, _, s2, _⟩ => sqL (s2.k _ _ n2)) ?_ ?_
    · rintro i y σ H2 hy ⟨cf2, wt2, z5, rfl, s2, c1, c2, uok2⟩
      rw [List.getElem?_map] at hy
      cases en : (nf up1)[i]? with
      | none => rw [en] at hy; cases hy
      | some l =>
        rw [en] at hy
        cases Option.some.inj hy
        obtain ⟨lw, lu⟩ := n4 l (List.mem_of_getElem? en)
        have edr : (nf up1).drop i = l :: (nf up1).drop (i + 1) := by
          obtain ⟨hi, ei⟩ := List.getElem?_eq_some_iff.mp en
          rw [List.drop_eq_getElem_cons hi, ei]
        have s2 : Se H cA W ws v nf lo up cl cf2 wt2 (some (up1, l :: (nf up1).drop (i + 1))) H2 := by rw [← edr]; exact s2
        have skip : (inK cf2 l || cl l) = true → Se H cA W ws v nf lo up cl cf2 wt2 (some (up1, (nf up1).drop (i + 1))) H2 := fun q => ⟨s2.k, s2.hA, s2.hW, s2.c, s2.n, s2.st.snoc (by rw [stp_cons, if_pos q]), s2.w⟩
        -- lower in came_from
        refine ⟨_, rfl, _, rfl, cA, _, rfl, .inl ⟨_, .inl l, .inl s2.hA, rfl, rfl⟩, _, rfl, ?_⟩
        cases ec : valV (kvOf cf2) (.inl l) with
        | some _ => exact iteT (iteT ⟨cf2, wt2, _, rfl, skip (by rw [← kv_some, ec]; rfl), c1, c2, uok2⟩)
        | none =>
        refine iteF ?_
        refine ⟨_, rfl, _, rfl, x, _, dx, fs, _, rfl, s2.k _ _ hx, pc.cl, pc.n4, f4, C, _, rfl, .inl ⟨_, .inl l, .inl (s2.k _ _ gC), rfl, rfl⟩, _, rfl, ?_⟩
        cases ecl : valV ck (.inl l) with
        | some _ => exact iteT ⟨cf2, wt2, _, rfl, skip (by rw [← vC l, ecl]; exact Bool.or_true _), c1, c2, uok2⟩
        | none =>
        refine iteF ?_
        have new0 : (inK cf2 l || cl l) = false := by rw [← kv_some, ec, ← vC l, ecl]; rfl
        -- came_from[lower] = upper
        have cn : Cf ws v lo (cf2 ++ [(l, up1)]) := s2.c.snoc lw uw lu (kv_none ec) uok2
        have few := cn.few
        rw [List.length_append] at few
        have few : cf2.length + 1 ≤ ws.length := few
        refine ⟨_, rfl, _, rfl, _, rfl, cA, _, rfl, .inl ⟨_, .inl l, s2.hA, rfl, ?_, rfl⟩, ?_⟩
        · rw [kv_len]
          exact Nat.lt_of_le_of_lt (show cf2.length ≤ 2000 by omega) (by decide)
        rw [kv_put ec]
        have last : (cf2 ++ [(l, up1)])[cf2.length]? = some (l, up1) := by rw [List.getElem?_append_right (Nat.le_refl _), Nat.sub_self]; rfl
        have lift : ∀ {j : Nat} {z : Int × Int}, cf2[j]? = some z → (cf2 ++ [(l, up1)])[j]? = some z := fun {j z} q => by
          rw [List.getElem?_append_left (List.getElem?_eq_some_iff.mp q).1]
          exact q
        have s3k : Same H (upd H2 cA (.dK (kvOf (cf2 ++ [(l, up1)])))) := Same.updF s2.k nA
        -- lower not in upper_of
        refine ⟨_, rfl, _, rfl, x, _, dx, fs, _, rfl, s3k _ _ hx, pc.cl, pc.n3, f3, U, _, rfl, .inl ⟨_, .inl l, .inl (s3k _ _ gU), rfl, rfl⟩, _, rfl, ?_⟩
        rw [vU l]
        cases eu : up l with
        | none =>
          refine iteT ?_
          have p3 : PS K (upd H2 cA (.dK (kvOf (cf2 ++ [(l, up1)])))) x N L U C ws nf lo up cl b := ps.same s3k
          refine ⟨_, rfl, x, dx, fs, rfl, s3k _ _ hx, f6, _, rfl, _, rfl, x, N, L, U, C, cA, ws, S, v, l, cf2 ++ [(l, up1)], nf, cl, lo, up, b, cf2.length, rfl, pc, p3, m, cn, hv, Gw.start m last eu, updS, (ne_of_none gL nA).symm, (ne_of_none gU nA).symm, aC.symm, by omega, fun lo' up' H4 k4 p4 m4 e4 gr hvv => ?_⟩
          exact k lo' up' cl H4 ((Kx.same s3k).trans k4) (p4.le (by omega)) m4 (.inl ⟨cf2, wt2, up1, l, _, s2.st, new0, eu, s2.c.nd, gr, rfl, hvv⟩)
        | some u2 =>
          refine iteF ?_
          -- waiting.append(upper_of[lower])
          have hlo := (m.inv u2 l).mpr eu
          obtain ⟨u2S, _, _⟩ := m.dom u2 l hlo
          have hW3 : upd H2 cA (.dK (kvOf (cf2 ++ [(l, up1)]))) W = some (.lst (wt2.map V.int)) := updN (fun z => nWA z.symm) s2.hW
          refine ⟨_, rfl, .inl ⟨rfl, _, sqL hW3⟩, _, rfl, x, _, dx, fs, _, rfl, s3k _ _ hx, pc.cl, pc.n3, f3, _, rfl, U, .int u2, rfl, .inl ⟨uk, .inl l, .inl (s3k _ _ gU), rfl, by rw [vU l, eu]; rfl⟩, W, _, _, rfl, rfl, hW3, ?_, ?_⟩
          · rw [List.length_map]
            exact Nat.lt_of_le_of_lt (show wt2.length ≤ 100000 by have := s2.n; omega) (by decide)
          refine ⟨cf2 ++ [(l, up1)], wt2 ++ [u2], _, rfl, ⟨Same.updF s3k nW0, updN nWA updS, ?_, cn, (by have := s2.n; rw [List.length_append, List.length_append, List.length_singleton, List.length_singleton]; omega), s2.st.snoc (by rw [stp_cons, if_neg (by rw [new0]; exact Bool.false_ne_true), eu]), fun u hu => ?_⟩, ?_, ?_, ?_⟩
          · rw [updS, List.map_append]
            rfl
          · rcases List.mem_append.mp hu with hu | hu
            · obtain ⟨q1, q2⟩ := s2.w u hu
              refine ⟨q1, ?_⟩
              rcases q2 with q2 | ⟨j, l', u', q3, q4⟩
              · exact .inl q2
              · exact .inr ⟨j, l', u', lift q3, q4⟩
            · rw [List.mem_singleton.mp hu]
              exact ⟨hS u2 u2S, .inr ⟨cf2.length, l, up1, last, hlo⟩⟩
          · rw [List.length_append]
            omega
          · rw [List.length_append, List.length_append]
            show wt2.length + 1 + cf.length = wt'.length + (cf2.length + 1)
            omega
          · rcases uok2 with q | ⟨j, l', u', q3, q4⟩
            · exact .inl q
            · exact .inr ⟨j, l', u', lift q3, q4⟩
    · rintro σ H2 ⟨cf2, wt2, z5, rfl, s2, c1, c2, _⟩
      have edr : (nf up1).drop ((nf up1).map V.int).length = [] := by rw [List.length_map, List.drop_length]
      rw [edr] at s2
      refine ⟨⟨cf2, wt2, _, z5, rfl, s2.k, s2.hA, s2.hW, s2.c, s2.n, s2.st.snoc rfl, s2.w⟩, ?_⟩
      show muP ws.length cA W H2 < muP ws.length cA W H1
      have few := s2.c.few
      rw [mu0, mu_eq s2.hA s2.hW, List.length_append, List.length_singleton]
      omega
end
end Fw

set_option Elab.async false
set_option linter.all false
set_option maxRecDepth 100000
set_option maxHeartbeats 4000000
namespace Fw
open PySem L2 RZ RT
/-- a dict comprehension over any walk -/
theorem dc_any {J : It} {n : Nat} {G : Hp → Prop} {Y : Nat → Hp → V → Hp → Prop} (wk : Walk J n G Y) {g : TG} {tt : TT} {tk tv : TE} {vs : List Nat} {σ : L2.St} {H1 : Hp} {D : Addr} {Qd : Hp → Prop} (Pv : Nat → Hp → Prop) (h0 : Pv 0 (upd H1 D (.dK []))) (hG : ∀ i H, i ≤ n → Pv i H → G H)
    (hs : ∀ i x H H', i < n → Pv i H → Y i H x H' → g x (wipe σ vs) H' fun σ2 H2 => wipe σ2 vs = wipe σ vs ∧ tt σ2 H2 fun b H3 =>
      if b = true then tk σ2 H3 fun y H4 => tv σ2 H4 fun z H5 => ∃ kvs k, y = kV k ∧ H5 D = some (.dK kvs) ∧ kvs.length < sizeLine ∧ Pv (i + 1) (upd H5 D (.dK (putK kvs k z))) else Pv (i + 1) H3) (hd : ∀ H, Pv n H → Qd H) :
    ∃ W : Nat → Nat → Hp → Prop, (∃ m, W 0 m (upd H1 D (.dK []))) ∧ ∀ i m H, W i m H →
      (J.stop i H ∧ Qd H) ∨ (J.go i H ∧ ∃ Nx : Hp → Prop, (∀ H', Nx H' → ∃ m', m' < m ∧ W (i + 1) m' H') ∧ ∀ x H', J.yld i H x H' → g x (wipe σ vs) H' fun σ2 H2 => wipe σ2 vs = wipe σ vs ∧ tt σ2 H2 fun b H3 =>
        if b = true then tk σ2 H3 fun y H4 => tv σ2 H4 fun z H5 => ∃ kvs k, y = kV k ∧ H5 D = some (.dK kvs) ∧ kvs.length < sizeLine ∧ Nx (upd H5 D (.dK (putK kvs k z))) else Nx H3) := by
  refine ⟨fun i m H => i ≤ n ∧ Pv i H ∧ m + i = n, ⟨n, Nat.zero_le _, h0, rfl⟩, ?_⟩
  rintro i m H ⟨hi, p, hm⟩
  have q := hG i H hi p
  by_cases hlt : i < n
  · refine .inr ⟨wk.goes i H hlt q, Pv (i + 1), fun H' p' => ⟨m - 1, by omega, hlt, p', by omega⟩, fun x H' y => hs i x H H' hlt p (wk.yields i H x H' hlt q y)⟩
  · have e : i = n := by omega
    subst e
    exact .inl ⟨wk.stops H q, hd H p⟩
/-- what is near, the greatest first -/
def nearF (ws : List Int) (f : Int → List Int) : Int → List Int := fun w => (ws.filter fun u => (f w).contains u).reverse
theorem mem_nearF {ws : List Int} {f : Int → List Int} {w u : Int} (h : u ∈ f w → u ∈ ws) : u ∈ nearF ws f w ↔ u ∈ f w := by
  unfold nearF
  rw [List.mem_reverse, List.mem_filter, List.contains_iff_mem]
  exact ⟨fun q => q.2, fun q => ⟨h q, q⟩⟩
theorem near_eq {ws : List Int} {f : Int → List Int} {w : Int} {ys : List Int} (inc : ws.Pairwise (· < ·)) (fnd : (f w).Nodup) (fok : ∀ u, u ∈ f w → u ∈ ws) (py : ys.Perm (f w)) (ord : OrdB true ys) : ys = nearF ws f w := by
  have p2 : ys.Perm (nearF ws f w) := by
    refine py.trans ((List.perm_ext_iff_of_nodup fnd ?_).mpr fun u => (mem_nearF (fok u)).symm)
    unfold nearF
    rw [List.Nodup, List.pairwise_reverse]
    exact ((rising_nodup inc).sublist List.filter_sublist).imp fun {a b} q z => q z.symm
  refine p2.eq_of_pairwise (le := (· ≥ ·)) (fun a b _ _ h1 h2 => ?_) ord ?_
  · have h1 : a ≥ b := h1
    have h2 : b ≥ a := h2
    omega
  · unfold nearF
    rw [List.pairwise_reverse]
    exact (inc.sublist List.filter_sublist).imp fun {a b} q => by
      have q : a < b := q
      show b ≥ a
      omega
def sp_Pairing_init (K : PySem.W.Frag) : Sp := fun vs H Q _ => ∃ (x dx Un : Addr) (ws : List Int) (as : List Addr) (f : Int → List Int), vs = [.ref x, .ref Un] ∧ PairC K ∧ H x = some (.ins (He.ga K "Pairing") dx []) ∧ UAt H Un ws as f ∧ ws.Nodup ∧ ws.length ≤ 1000 ∧ (∀ w, (f w).Nodup) ∧ (∀ w u, u ∈ f w → u ∈ ws ∧ u < w) ∧ ws.Pairwise (· < ·) ∧
  ∀ (N L U C : Addr) (H' : Hp), (∀ b o, H b = some o → b ≠ x → H' b = some o) → (H L = none ∧ H U = none ∧ H C = none) → PS K H' x N L U C ws (nearF ws f) (fun _ => none) (fun _ => none) (fun _ => false) 0 → Q .non H'
abbrev N_Pairing_init : List Str := ["self", "under", "version"]
def t_Pairing_init_rest (K : PySem.W.Frag) : TS := (tSeq (sFld K (tVar 0) tDNewK "lower_of")
    (tSeq (sFld K (tVar 0) tDNewK "upper_of")
    (sFld K (tVar 0) tDNewK "closed")))
def t_Pairing_init (K : PySem.W.Frag) : TS := (tSeq (sFld K (tVar 0) (tLockE (tDc (iKeys (tVar 1)) (gName 2) tYes (tVar 2) (tCKw (rSortDR true) (tCons (tDGet (tVar 1) (tVar 2)) tNil) (tCons (tC (.bl true)) tNil)) [2])) "near")
    (t_Pairing_init_rest K))
theorem len_Pairing_init {K : PySem.W.Frag} {vs : List V} {H : Hp} {Q : VK} {E : XK} (h : sp_Pairing_init K vs H Q E) : vs.length = 2 := by
  obtain ⟨_, _, _, _, _, _, rfl, _⟩ := h
  rfl
theorem putF_len (f : Str) (v : V) : ∀ fs : List (Str × V), (putF f v fs).length ≤ fs.length + 1
  | [] => Nat.le_refl _
  | (g, y) :: r => by
    unfold putF
    by_cases e : g = f
    · rw [if_pos e]
      exact Nat.le_succ _
    · rw [if_neg e]
      exact Nat.succ_le_succ (putF_len f v r)
theorem fld_new {F : Hp} {p x : Addr} {o' : HO} (np : F p = none) (hx : F x ≠ none) : (∀ b o, F b = some o → b ≠ x → upd (upd F p (.dK [])) x o' b = some o) ∧ upd (upd F p (.dK [])) x o' p = some (.dK []) ∧ upd (upd F p (.dK [])) x o' x = some o' :=
  ⟨fun b o hb nb => updN nb (updN (ne_of_none hb np) hb), updN (fun z => hx (by rw [← z]; exact np)) updS, updS⟩
theorem rows_take {ws : List Int} {bs : List Addr} {i : Nat} {w : Int} {q : Addr} (hb : bs.length = i) (hw : ws[i]? = some w) (nd : ws.Nodup) : putK (rowsKV (ws.take i) bs) (.inl w) (.ref q) = rowsKV (ws.take (i + 1)) (bs ++ [q]) := by
  have hi := List.getElem?_eq_some_iff.mp hw
  have nin : w ∉ ws.take i := fun hm => by
    obtain ⟨j, hj, e⟩ := List.getElem_of_mem hm
    rw [List.length_take] at hj
    rw [List.getElem_take] at e
    have : j = i := (List.getElem_inj nd).mp (e.trans hi.2.symm)
    omega
  rw [putK_new _ (rows_none nin), take_snoc hw]
  unfold rowsKV
  rw [List.zipWith_append (by have := hi.1; rw [List.length_take, hb]; omega)]
  rfl
section
variable {K : PySem.W.Frag} {vs : List V} {H : Hp} {Q : VK} {E : XK}
theorem pure_Pairing_init (h : sp_Pairing_init K vs H Q E) : t_Pairing_init K { nx := fun _ H' => Q .non H', rt := Q } (start N_Pairing_init vs) H := by
  obtain ⟨x, dx, Un, ws, as, f, rfl, pc, hx, ua, nd, hn, fnd, fok, inc, k⟩ := h
  have lrow : (rowsKV ws as).length = ws.length := rowsKV_length ua.len
  refine ⟨Un, _, ua.top, True.intro, fun od => ?_⟩
  have nxU : x ≠ Un := ne_of hx ua.top (by intro z; cases z)
  refine ⟨_, rfl, Un, od, rfl, .inl ⟨_, updS, fun N nN => ?_⟩⟩
  have nNU : Un ≠ N := ne_of_none updS nN
  have nN0 : H N = none := by
    rw [upd_ne (fun z => nNU z.symm)] at nN
    exact nN
  -- the heap with the dict locked
  refine dc_any walk_keys (fun i H' => ∃ bs : List Addr, bs.length = i ∧ H' Un = some (.frz od (.dK (rowsKV ws as))) ∧ H' N = some (.dK (rowsKV (ws.take i) bs)) ∧ (∀ b o, H b = some o → b ≠ Un → H' b = some o) ∧ ∀ (j : Nat) (w : Int) (q : Addr), ws[j]? = some w → bs[j]? = some q → H' q = some (.lst ((nearF ws f w).map V.int)) ∧ (nearF ws f w).length ≤ 1000 ∧ ∀ u ∈ nearF ws f w, u ∈ ws ∧ u < w) ⟨[], rfl, updN nNU updS, ?_, fun b o hb nb => updN (ne_of_none hb nN0) (updN nb hb), fun j w q _ e => by cases e⟩ (fun i H' _ ⟨_, _, e, _⟩ => e) ?_ ?_
  · exact updS
  · rintro i y H1 H2 hi ⟨bs, lb, hU1, hN1, keep, rows⟩ ⟨rfl, key, val, hkv, rfl⟩
    rw [lrow] at hi
    have hwi : ws[i]? = some ws[i] := List.getElem?_eq_getElem hi
    have hai : i < as.length := by rw [ua.len]; exact hi
    have ekv : (rowsKV ws as)[i]? = some (.inl ws[i], .ref as[i]) := by
      unfold rowsKV
      rw [List.getElem?_zipWith, hwi, List.getElem?_eq_getElem hai]
    rw [ekv] at hkv
    cases Option.some.inj hkv
    have ha : H as[i] = some (.dK (mkS (f ws[i]))) := ua.row i _ _ (List.getElem?_eq_getElem hai) hwi
    have nau : as[i] ≠ Un := fun z => ua.out (by rw [← z]; exact List.getElem_mem hai)
    have gv := rows_val nd hwi (List.getElem?_eq_getElem hai)
    refine ⟨rfl, _, rfl, _, rfl, _, rfl, Un, .ref as[i], rfl, .inl ⟨_, .inl ws[i], .inr ⟨od, hU1⟩, rfl, gv.symm⟩, as[i], mkS (f ws[i]), f ws[i], rfl, rfl, .inl (keep _ _ ha nau), mkS_keys _, fun ys q py ord nq => ?_⟩
    have ey := near_eq inc (fnd ws[i]) (fun u hu => (fok ws[i] u hu).1) py ord
    have few : ys.length ≤ 1000 := by
      rw [py.length_eq]
      exact Nat.le_trans (length_sub (fnd ws[i]) fun u hu => (fok ws[i] u hu).1) hn
    refine ⟨_, .inl ws[i], rfl, updN (ne_of_none hN1 nq) hN1, ?_, bs ++ [q], ?_, ?_, ?_, ?_, ?_⟩
    · rw [rowsKV_length (by rw [lb, List.length_take]; omega), List.length_take]
      exact Nat.lt_of_le_of_lt (show min i ws.length ≤ 1000 by omega) (by decide)
    · rw [List.length_append, lb]
      rfl
    · exact updN nNU (updN (ne_of_none hU1 nq) hU1)
    · rw [updS, rows_take lb hwi nd]
    · intro b o hb nb
      exact updN (ne_of_none hb nN0) (updN (ne_of_none (keep _ _ hb nb) nq) (keep _ _ hb nb))
    · intro j w r hj hr
      by_cases hjl : j < bs.length
      · rw [List.getElem?_append_left hjl] at hr
        obtain ⟨h1, h2⟩ := rows j w r hj hr
        exact ⟨updN (ne_of h1 hN1 (by intro z; cases z)) (updN (ne_of_none h1 nq) h1), h2⟩
      · have hj2 : j < (bs ++ [q]).length := (List.getElem?_eq_some_iff.mp hr).1
        rw [List.length_append, List.length_singleton] at hj2
        have ej : j = i := by omega
        subst ej
        rw [List.getElem?_append_right (by omega), lb, Nat.sub_self] at hr
        cases Option.some.inj hr
        rw [hwi] at hj
        cases Option.some.inj hj
        rw [← ey]
        refine ⟨updN (fun z => ?_) updS, few, fun u hu => fok _ u (py.mem_iff.mp hu)⟩
        rw [z, hN1] at nq
        cases nq
  · rintro H1 ⟨bs, lb, hU1, hN1, keep, rows⟩
    rw [lrow] at lb
    rw [lrow, List.take_length] at hN1
    refine ⟨hU1, ?_⟩
    have keep2 : ∀ b o, H b = some o → upd H1 Un (.dK (rowsKV ws as)) b = some o := fun b o hb => by
      by_cases e : b = Un
      · subst e
        rw [updS, ← ua.top, hb]
      · exact updN e (keep b o hb e)
    have hN2 : upd H1 Un (.dK (rowsKV ws as)) N = some (.dK (rowsKV ws bs)) := updN (fun z => nNU z.symm) hN1
    have rows2 : ∀ (j : Nat) (w : Int) (q : Addr), ws[j]? = some w → bs[j]? = some q → upd H1 Un (.dK (rowsKV ws as)) q = some (.lst ((nearF ws f w).map V.int)) ∧ (nearF ws f w).length ≤ 1000 ∧ ∀ u ∈ nearF ws f w, u ∈ ws ∧ u < w := fun j w q h1 h2 => by
      obtain ⟨g1, g2⟩ := rows j w q h1 h2
      exact ⟨updN (ne_of g1 hU1 (by intro z; cases z)) g1, g2⟩
    generalize upd H1 Un (.dK (rowsKV ws as)) = H2 at keep2 hN2 rows2 ⊢
    clear keep rows hN1 hU1
    have hx2 := keep2 _ _ hx
    refine ⟨_, rfl, x, _, dx, [], rfl, hx2, pc.cl, pc.n1, by decide, ?_⟩
    show t_Pairing_init_rest K { nx := fun _ H' => Q .non H', rt := Q } [some (.ref x), some (.ref Un), none] _
    have k3 : ∀ b o, H2 b = some o → b ≠ x → upd H2 x (.ins (He.ga K "Pairing") dx (putF "near" (.ref N) [])) b = some o := fun b o hb nb => updN nb hb
    have x3 : upd H2 x (.ins (He.ga K "Pairing") dx (putF "near" (.ref N) [])) x = some (.ins (He.ga K "Pairing") dx (putF "near" (.ref N) [])) := updS
    generalize upd H2 x (.ins (He.ga K "Pairing") dx (putF "near" (.ref N) [])) = H3 at k3 x3 ⊢
    intro L nL
    obtain ⟨k4, g4, x4⟩ := fld_new (x := x) (o' := .ins (He.ga K "Pairing") dx (putF "lower_of" (.ref L) (putF "near" (.ref N) []))) nL (by rw [x3]; intro z; cases z)
    refine ⟨_, rfl, x, _, dx, _, rfl, updN (ne_of_none x3 nL) x3, pc.cl, pc.n2, by show (1 : Nat) < 1000; decide, ?_⟩
    generalize upd (upd H3 L (.dK [])) x (.ins (He.ga K "Pairing") dx (putF "lower_of" (.ref L) (putF "near" (.ref N) []))) = H4 at k4 g4 x4 ⊢
    intro U nU
    obtain ⟨k5, g5, x5⟩ := fld_new (x := x) (o' := .ins (He.ga K "Pairing") dx (putF "upper_of" (.ref U) (putF "lower_of" (.ref L) (putF "near" (.ref N) [])))) nU (by rw [x4]; intro z; cases z)
    refine ⟨_, rfl, x, _, dx, _, rfl, updN (ne_of_none x4 nU) x4, pc.cl, pc.n3, ?_, ?_⟩
    · exact Nat.lt_of_le_of_lt (putF_len _ _ _) (by show (2 : Nat) < 1000; decide)
    generalize upd (upd H4 U (.dK [])) x (.ins (He.ga K "Pairing") dx (putF "upper_of" (.ref U) (putF "lower_of" (.ref L) (putF "near" (.ref N) [])))) = H5 at k5 g5 x5 ⊢
    intro C nC
    obtain ⟨k6, g6, x6⟩ := fld_new (x := x) (o' := .ins (He.ga K "Pairing") dx (putF "closed" (.ref C) (putF "upper_of" (.ref U) (putF "lower_of" (.ref L) (putF "near" (.ref N) []))))) nC (by rw [x5]; intro z; cases z)
    refine ⟨_, rfl, x, _, dx, _, rfl, updN (ne_of_none x5 nC) x5, pc.cl, pc.n4, ?_, ?_⟩
    · exact Nat.lt_of_le_of_lt (Nat.le_trans (putF_len _ _ _) (Nat.succ_le_succ (putF_len _ _ _))) (by show (3 : Nat) < 1000; decide)
    generalize upd (upd H5 C (.dK [])) x (.ins (He.ga K "Pairing") dx (putF "closed" (.ref C) (putF "upper_of" (.ref U) (putF "lower_of" (.ref L) (putF "near" (.ref N) []))))) = H6 at k6 g6 x6 ⊢
    have nLx : L ≠ x := fun z => by rw [z, x3] at nL; cases nL
    have nUx : U ≠ x := fun z => by rw [z, x4] at nU; cases nU
    have nNx : N ≠ x := ne_of hN2 hx2 (by intro z; cases z)
    have hN3 := k3 _ _ hN2 nNx
    have hN4 := k4 _ _ hN3 nNx
    have hN5 := k5 _ _ hN4 nNx
    have hL5 := k5 _ _ g4 nLx
    have all : ∀ b o, H2 b = some o → b ≠ x → H6 b = some o := fun b o hb nb => k6 _ _ (k5 _ _ (k4 _ _ (k3 _ _ hb nb) nb) nb) nb
    have nCx : C ≠ x := fun z => by rw [z, x5] at nC; cases nC
    have fr : H L = none ∧ H U = none ∧ H C = none := by
      refine ⟨?_, ?_, ?_⟩
      · cases e : H L with
        | none => rfl
        | some o => rw [k3 _ _ (keep2 _ _ e) nLx] at nL; cases nL
      · cases e : H U with
        | none => rfl
        | some o => rw [k4 _ _ (k3 _ _ (keep2 _ _ e) nUx) nUx] at nU; cases nU
      · cases e : H C with
        | none => rfl
        | some o => rw [k5 _ _ (k4 _ _ (k3 _ _ (keep2 _ _ e) nCx) nCx) nCx] at nC; cases nC
    refine k N L U C H6 (fun b o hb nb => all b o (keep2 b o hb) nb) fr ⟨⟨dx, _, x6, ?_, ?_, ?_, ?_, ?_, ?_, ?_, ?_⟩, ⟨[], k6 _ _ hL5 nLx, Nat.le_refl _, fun j => rfl⟩, ⟨[], k6 _ _ g5 nUx, Nat.le_refl _, fun j => rfl⟩, ⟨[], g6, Nat.le_refl _, fun j => rfl⟩, ⟨rowsKV ws bs, all _ _ hN2 nNx, fun w hw => ?_⟩, ⟨(ne_of_none g4 nU), (ne_of_none hL5 nC), (ne_of_none g5 nC), (ne_of_none hN3 nL), (ne_of_none hN4 nU), (ne_of_none hN5 nC)⟩⟩
    · rw [lookup_putF, if_neg (by decide +kernel), lookup_putF, if_neg (by decide +kernel), lookup_putF, if_neg (by decide +kernel), lookup_putF, if_pos rfl]
    · rw [lookup_putF, if_neg (by decide +kernel), lookup_putF, if_neg (by decide +kernel), lookup_putF, if_pos rfl]
    · rw [lookup_putF, if_neg (by decide +kernel), lookup_putF, if_pos rfl]
    · rw [lookup_putF, if_pos rfl]
    · rw [lookup_putF, if_neg (by decide +kernel), lookup_putF, if_neg (by decide +kernel), lookup_putF, if_neg (by decide +kernel), lookup_putF, if_neg (by decide +kernel)]; rfl
    · rw [lookup_putF, if_neg (by decide +kernel), lookup_putF, if_neg (by decide +kernel), lookup_putF, if_neg (by decide +kernel), lookup_putF, if_neg (by decide +kernel)]; rfl
    · rw [lookup_putF, if_neg (by decide +kernel), lookup_putF, if_neg (by decide +kernel), lookup_putF, if_neg (by decide +kernel), lookup_putF, if_neg (by decide +kernel)]; rfl
    · rw [lookup_putF, if_neg (by decide +kernel), lookup_putF, if_neg (by decide +kernel), lookup_putF, if_neg (by decide +kernel), lookup_putF, if_neg (by decide +kernel)]; rfl
    · obtain ⟨i, hi, e⟩ := List.getElem_of_mem hw
      have e1 : ws[i]? = some w := List.getElem?_eq_some_iff.mpr ⟨hi, e⟩
      have hib : i < bs.length := by omega
      have e2 : bs[i]? = some bs[i] := List.getElem?_eq_getElem hib
      obtain ⟨g1, g2, g3⟩ := rows2 i w _ e1 e2
      exact ⟨bs[i], rows_val nd e1 e2, all _ _ g1 (ne_of g1 hx2 (by intro z; cases z)), g2, g3⟩
end
end Fw

set_option Elab.async false
set_option linter.all false
set_option maxRecDepth 100000
set_option maxHeartbeats 4000000
namespace Fw
open PySem L2 RZ RT
def sp_Pairing_chain (K : PySem.W.Frag) : Sp := fun vs H Q _ => ∃ (x N L U C : Addr) (ws S : List Int) (v : Int) (nf : Int → List Int) (cl : Int → Bool) (lo up : Int → Option Int) (b : Nat), vs = [.ref x, .int v] ∧ PairC K ∧ PS K H x N L U C ws nf lo up cl b ∧ Mt ws S lo up ∧ v ∈ ws ∧ (∀ u ∈ S, u ∈ ws) ∧ ws.length ≤ 1000 ∧
  ∀ (r : Addr) (cs : List Int) (H' : Hp), Same H H' → H' r = some (.tup (cs.map V.int)) → ChainOf up v cs → Q (.ref r) H'
def sp_Pairing_stands_apart (K : PySem.W.Frag) : Sp := fun vs H Q _ => ∃ (x N L U C : Addr) (ws : List Int) (v : Int) (nf : Int → List Int) (cl : Int → Bool) (lo up : Int → Option Int) (b : Nat), vs = [.ref x, .int v] ∧ PairC K ∧ PS K H x N L U C ws nf lo up cl b ∧ Q (.bl (apB lo cl v)) H
/-- chains and those apart, as told -/
def CovAt (H : Hp) (r : Addr) (cs : List (List Int)) (ap : List Int) : Prop := ∃ (ta tb : Addr) (ca : List Addr), H r = some (.tup [.ref ta, .ref tb]) ∧ H ta = some (.tup (ca.map V.ref)) ∧ H tb = some (.tup (ap.map V.int)) ∧ ca.length = cs.length ∧ ∀ (i : Nat) (a : Addr) (c : List Int), ca[i]? = some a → cs[i]? = some c → H a = some (.tup (c.map V.int))
def sp_cover (K : PySem.W.Frag) : Sp := fun vs H Q _ => ∃ (p : Addr) (ws : List Int) (ls : List (Int × Int)), vs = [.ref p] ∧ PairC K ∧ ShapeAt H p ws ls ∧ Good ws ls ∧ ws.length ≤ 400 ∧ ls.length ≤ 10000 ∧
  ∀ (r : Addr) (H' : Hp) (cs : List (List Int)) (ap : List Int) (nf : Int → List Int) (lo up : Int → Option Int) (cl : Int → Bool), Same H H' → CovAt H' r cs ap → CoverIs ws ls cs ap nf lo up cl → Q (.ref r) H'
abbrev N_Pairing_chain : List Str := ["self", "first", "chain"]
def t_Pairing_chain (K : PySem.W.Frag) : TS := (tSeq (tAsg (tLst (tCons (tVar 1) tNil)) (gName 2))
    (tSeq (tWhile (tB (tDIn (tOp (rIx K) (tVar 2) (tUn rNegI (tC (.int 1)))) (tFld K (tVar 0) "upper_of"))) (tDrop (tBM K "list" rAppend (tVar 2) (tCons (tDGet (tFld K (tVar 0) "upper_of") (tOp (rIx K) (tVar 2) (tUn rNegI (tC (.int 1))))) tNil))))
    (tRet (tCB (fTupleOf K) (tCons (tVar 2) tNil)))))
abbrev N_Pairing_stands_apart : List Str := ["self", "version"]
def t_Pairing_stands_apart (K : PySem.W.Frag) : TS := (tSeq (tIfS (tB (tDIn (tVar 1) (tFld K (tVar 0) "closed"))) (tRet (tC (.bl false))) tNext)
    (tRet (tOrV (tDNotIn (tVar 1) (tFld K (tVar 0) "lower_of")) (tDIn (tDGet (tFld K (tVar 0) "lower_of") (tVar 1)) (tFld K (tVar 0) "closed")))))
abbrev N_cover : List Str := ["shape", "pairing", "version", "chains", "apart"]
def t_cover_apart (K : PySem.W.Frag) : TS := (tSeq (tAsg (tLc (iTup K (tOp (rIx K) (tVar 0) (tC (.int 0)))) (gName 2) (tB (tMeth (He.ga K "Pairing") "stands_apart" (sp_Pairing_stands_apart K) [] E0 (tVar 1) (tCons (tVar 2) tNil))) (tVar 2) [2]) (gName 4))
    (tRet (tTup (tCons (tCB (fTupleOf K) (tCons (tVar 3) tNil)) (tCons (tCB (fTupleOf K) (tCons (tVar 4) tNil)) tNil)))))
def t_cover_chains (K : PySem.W.Frag) : TS := (tSeq (tAsg (tLc (iTup K (tOp (rIx K) (tVar 0) (tC (.int 0)))) (gName 2) (tB (tDNotIn (tVar 2) (tFld K (tVar 1) "lower_of"))) (tMeth (He.ga K "Pairing") "chain" (sp_Pairing_chain K) [] E0 (tVar 1) (tCons (tVar 2) tNil)) [2]) (gName 3))
    (t_cover_apart K))
def t_cover_loop (K : PySem.W.Frag) : TS := (tSeq (tFor (iTup K (tOp (rIx K) (tVar 0) (tC (.int 0)))) (gName 2) (tDrop (tMeth (He.ga K "Pairing") "pair" (sp_Pairing_pair K) [] E0 (tVar 1) (tCons (tVar 2) tNil))))
    (t_cover_chains K))
def t_cover (K : PySem.W.Frag) : TS := (tSeq (tAsg (tMake (He.ga K "Pairing") (sp_Pairing_init K) [] E0 (tCons (tCall (sp_all_below K) [] E0 (tCons (tVar 0) tNil)) tNil)) (gName 1))
    (t_cover_loop K))
section
variable {K : PySem.W.Frag} {vs : List V} {H : Hp} {Q : VK} {E : XK}
theorem len_Pairing_chain (h : sp_Pairing_chain K vs H Q E) : vs.length = 2 := by obtain ⟨_, _, _, _, _, _, _, _, _, _, _, _, _, rfl, _⟩ := h; rfl
theorem len_Pairing_stands_apart (h : sp_Pairing_stands_apart K vs H Q E) : vs.length = 2 := by obtain ⟨_, _, _, _, _, _, _, _, _, _, _, _, rfl, _⟩ := h; rfl
theorem len_cover (h : sp_cover K vs H Q E) : vs.length = 1 := by obtain ⟨_, _, _, rfl, _⟩ := h; rfl
theorem ix_mono {x y : V} {Q Q' : VK} (f : ∀ v H', Q v H' → Q' v H') (h : rIx K x y H Q) : rIx K x y H Q' := by
  rcases h with h | h | h
  · obtain ⟨a, b, c, d, h1, h2, h3, h4, q⟩ := h
    exact .inl ⟨a, b, c, d, h1, h2, h3, h4, f _ _ q⟩
  · obtain ⟨a, b, c, d, h1, h2, h3, h4, q⟩ := h
    exact .inr (.inl ⟨a, b, c, d, h1, h2, h3, h4, f _ _ q⟩)
  · obtain ⟨a, b, c, h1, h2, h3, h4, q⟩ := h
    exact .inr (.inr ⟨a, b, c, h1, h2, h3, h4, f _ _ q⟩)
theorem at_last {xs : List V} {y : V} : atI (xs ++ [y]) (-1) = some y := by
  unfold atI ixN
  rw [List.length_append, List.length_singleton, if_neg (by decide), if_pos (by omega)]
  show (xs ++ [y])[(-1 + ((xs.length + 1 : Nat) : Int)).toNat]? = _
  rw [show (-1 + ((xs.length + 1 : Nat) : Int)).toNat = xs.length by omega, List.getElem?_append_right (Nat.le_refl _), Nat.sub_self]
  rfl
def lenAt (c : Addr) (H : Hp) : Nat := match H c with | some (.lst xs) => xs.length | _ => 0
theorem inc_few {cs ws : List Int} (h : cs.Pairwise (· < ·)) (hin : ∀ u ∈ cs, u ∈ ws) : cs.length ≤ ws.length := length_sub (h.imp fun a => by omega) hin
theorem pure_Pairing_chain (h : sp_Pairing_chain K vs H Q E) : t_Pairing_chain K { nx := fun _ H' => Q .non H', rt := Q } (start N_Pairing_chain vs) H := by
  obtain ⟨x, N, L, U, C, ws, S, v, nf, cl, lo, up, b, rfl, pc, ps, m, hv, hS, hn, k⟩ := h
  obtain ⟨dx, fs, hx, f1, f2, f3, f4, f5⟩ := id ps.po
  obtain ⟨uk, gU, lU, vU⟩ := id ps.hU
  refine ⟨_, rfl, by show (1 : Nat) ≤ sizeLine; decide, fun c nc => ?_⟩
  show tSeq (tWhile _ _) _ _ [some (.ref x), some (.int v), some (.ref c)] _
  refine while_by (fun σ H' => ∃ (cs : List Int) (l : Int), σ = [some (.ref x), some (.int v), some (.ref c)] ∧ Same H H' ∧ H' c = some (.lst ((cs ++ [l]).map V.int)) ∧ (cs ++ [l]).Pairwise (· < ·) ∧ (∀ u ∈ cs ++ [l], u ∈ ws) ∧ (cs ++ [l])[0]? = some v ∧ ∀ i x, cs[i]? = some x → (cs ++ [l])[i + 1]? = up x) (fun _ H' => ws.length - lenAt c H') ⟨[], v, rfl, samNew nc, updS, List.pairwise_singleton _ _, (fun u hu => by rw [List.mem_singleton.mp hu]; exact hv), rfl, fun i x h => by cases h⟩ ?_ ?_
  · rintro σ H1 ⟨cs, l, rfl, s1, hc, inc, hin, hd, nx⟩
    have el : atI ((cs ++ [l]).map V.int) (-1) = some (.int l) := by
      rw [List.map_append, List.map_singleton]
      exact at_last
    refine ⟨_, rfl, _, rfl, ixL hc el ⟨_, rfl, x, _, dx, fs, _, rfl, s1 _ _ hx, pc.cl, pc.n3, f3, U, _, rfl, .inl ⟨_, .inl l, .inl (s1 _ _ gU), rfl, rfl⟩, _, rfl, ?_⟩⟩
    rw [vU l]
    have lc : lenAt c H1 = cs.length + 1 := by
      unfold lenAt
      rw [hc]
      show ((cs ++ [l]).map V.int).length = _
      rw [List.length_map, List.length_append]
      rfl
    cases eu : up l with
    | none =>
      refine iteF ⟨_, rfl, c, _, rfl, .inl ⟨sqL hc, fun r nr => k r (cs ++ [l]) _ (s1.trans (samNew nr)) updS ⟨hd, fun i x hx => ?_⟩⟩⟩
      by_cases hi : i < cs.length
      · rw [List.getElem?_append_left hi] at hx
        exact nx i x hx
      · have hi2 := (List.getElem?_eq_some_iff.mp hx).1
        rw [List.length_append, List.length_singleton] at hi2
        have e0 : i - cs.length = 0 := by omega
        rw [List.getElem?_append_right (by omega), e0] at hx
        cases Option.some.inj hx
        rw [eu, List.getElem?_eq_none_iff, List.length_append, List.length_singleton]
        omega
    | some u =>
      refine iteT ?_
      obtain ⟨uS, lw, lu⟩ := m.dom u l ((m.inv u l).mpr eu)
      have few0 := inc_few inc hin
      rw [List.length_append, List.length_singleton] at few0
      refine ⟨_, rfl, .inl ⟨rfl, _, sqL hc⟩, _, rfl, x, _, dx, fs, _, rfl, s1 _ _ hx, pc.cl, pc.n3, f3, _, rfl, _, rfl, ixL hc el ⟨U, .int u, rfl, .inl ⟨uk, .inl l, .inl (s1 _ _ gU), rfl, by rw [vU l, eu]; rfl⟩, c, _, _, rfl, rfl, hc, ?_, ?_⟩⟩
      · rw [List.length_map, List.length_append]
        exact Nat.lt_of_le_of_lt (show cs.length + 1 ≤ 2000 by omega) (by decide)
      have inc2 : (cs ++ [l] ++ [u]).Pairwise (· < ·) := by
        rw [List.pairwise_append]
        refine ⟨inc, List.pairwise_singleton _ _, fun a ha y hy => ?_⟩
        rw [List.mem_singleton.mp hy]
        rcases List.mem_append.mp ha with ha | ha
        · have := (List.pairwise_append.mp inc).2.2 a ha l (List.mem_singleton.mpr rfl)
          omega
        · rw [List.mem_singleton.mp ha]
          exact lu
      have hin2 : ∀ z ∈ cs ++ [l] ++ [u], z ∈ ws := fun z hz => by
        rcases List.mem_append.mp hz with hz | hz
        · exact hin z hz
        · rw [List.mem_singleton.mp hz]
          exact hS u uS
      have few := inc_few inc2 hin2
      rw [List.length_append, List.length_append, List.length_singleton, List.length_singleton] at few
      have eL : (cs ++ [l]).map V.int ++ [V.int u] = (cs ++ [l] ++ [u]).map V.int := by rw [List.map_append (l₁ := cs ++ [l])]; rfl
      rw [eL]
      have nx2 : ∀ i x, (cs ++ [l])[i]? = some x → (cs ++ [l] ++ [u])[i + 1]? = up x := fun i x hx => by
        by_cases hi : i < cs.length
        · rw [List.getElem?_append_left hi] at hx
          rw [← nx i x hx, List.getElem?_append_left (by rw [List.length_append, List.length_singleton]; omega)]
        · have hi2 := (List.getElem?_eq_some_iff.mp hx).1
          rw [List.length_append, List.length_singleton] at hi2
          have e0 : i - cs.length = 0 := by omega
          rw [List.getElem?_append_right (by omega), e0] at hx
          cases Option.some.inj hx
          have e1 : i + 1 - (cs ++ [l]).length = 0 := by rw [List.length_append, List.length_singleton]; omega
          rw [eu, List.getElem?_append_right (by rw [List.length_append, List.length_singleton]; omega), e1]
          rfl
      have hd2 : (cs ++ [l] ++ [u])[0]? = some v := by rw [List.getElem?_append_left (by rw [List.length_append, List.length_singleton]; omega)]; exact hd
      refine ⟨⟨cs ++ [l], u, rfl, Same.updF s1 nc, updS, inc2, hin2, hd2, nx2⟩, ?_⟩
      show ws.length - lenAt c _ < ws.length - lenAt c H1
      rw [lc]
      have : lenAt c (upd H1 c (.lst ((cs ++ [l] ++ [u]).map V.int))) = cs.length + 2 := by
        unfold lenAt
        rw [updS]
        show ((cs ++ [l] ++ [u]).map V.int).length = _
        rw [List.length_map, List.length_append, List.length_append]
        rfl
      rw [this]
      omega
  · intro σ H Q Q' f h
    obtain ⟨v, e, w, e2, h⟩ := h
    refine ⟨v, e, w, e2, ix_mono (fun y H1 q => ?_) h⟩
    obtain ⟨v2, e3, a, C, dx, fs, w2, e4, q1, q2, q3, q4, a2, o, q5, q6, b2, q7, q8⟩ := q
    exact ⟨v2, e3, a, C, dx, fs, w2, e4, q1, q2, q3, q4, a2, o, q5, q6, b2, q7, f _ _ q8⟩
theorem pure_Pairing_stands_apart (h : sp_Pairing_stands_apart K vs H Q E) : t_Pairing_stands_apart K { nx := fun _ H' => Q .non H', rt := Q } (start N_Pairing_stands_apart vs) H := by
  obtain ⟨x, N, L, U, C, ws, v, nf, cl, lo, up, b, rfl, pc, ps, k⟩ := h
  obtain ⟨dx, fs, hx, f1, f2, f3, f4, f5⟩ := id ps.po
  obtain ⟨lk, gL, lL, vL⟩ := id ps.hL
  obtain ⟨ck, gC, lC, vC⟩ := id ps.hC
  refine ⟨_, rfl, _, rfl, x, _, dx, fs, _, rfl, hx, pc.cl, pc.n4, f4, C, _, rfl, .inl ⟨_, .inl v, .inl gC, rfl, rfl⟩, _, rfl, ?_⟩
  rw [vC v]
  unfold apB at k
  cases ec : cl v with
  | true =>
    rw [ec] at k
    exact iteT k
  | false =>
  rw [ec] at k
  refine iteF ?_
  refine ⟨_, rfl, _, rfl, x, _, dx, fs, _, rfl, hx, pc.cl, pc.n2, f2, L, _, rfl, .inl ⟨_, .inl v, .inl gL, rfl, rfl⟩, _, rfl, ?_⟩
  rw [vL v]
  cases q : lo v with
  | none =>
    rw [q] at k
    exact iteT k
  | some l =>
    rw [q] at k
    refine iteF ⟨_, rfl, x, _, dx, fs, _, rfl, hx, pc.cl, pc.n2, f2, _, rfl, L, .int l, rfl, .inl ⟨_, .inl v, .inl gL, rfl, by rw [vL v, q]; rfl⟩, ?_⟩
    refine ⟨_, rfl, x, _, dx, fs, _, rfl, hx, pc.cl, pc.n4, f4, C, _, rfl, .inl ⟨_, .inl l, .inl gC, rfl, rfl⟩, ?_⟩
    rw [vC l]
    exact k
theorem filt_snoc {p : Int → Bool} {l : List Int} {i : Nat} {w : Int} (h : l[i]? = some w) : (l.take (i + 1)).filter p = (l.take i).filter p ++ if p w = true then [w] else [] := by
  rw [take_snoc h, List.filter_append]
  cases e : p w with
  | true => rw [List.filter_cons, if_pos e]; rfl
  | false => rw [List.filter_cons, if_neg (by rw [e]; exact Bool.false_ne_true)]; rfl
/-- the chains of those among the first that have none below them -/
structure Chs (H : Hp) (A : Addr) (ca : List Addr) (cs : List (List Int)) (up : Int → Option Int) (fs : List Int) : Prop where
  hA : H A = some (.lst (ca.map V.ref))
  lc : ca.length = cs.length
  lf : cs.length = fs.length
  pt : ∀ (i : Nat) (a : Addr) (c : List Int), ca[i]? = some a → cs[i]? = some c → H a = some (.tup (c.map V.int))
  ch : ∀ (i : Nat) (f : Int) (c : List Int), fs[i]? = some f → cs[i]? = some c → ChainOf up f c
theorem snoc_get {α : Type} {l : List α} {x y : α} {i : Nat} (h : (l ++ [x])[i]? = some y) : (i < l.length ∧ l[i]? = some y) ∨ (i = l.length ∧ x = y) := by
  by_cases hi : i < l.length
  · rw [List.getElem?_append_left hi] at h
    exact .inl ⟨hi, h⟩
  · have hi2 := (List.getElem?_eq_some_iff.mp h).1
    rw [List.length_append, List.length_singleton] at hi2
    have e0 : i - l.length = 0 := by omega
    rw [List.getElem?_append_right (by omega), e0] at h
    exact .inr ⟨by omega, Option.some.inj h⟩
theorem Chs.snoc {H H' : Hp} {A r : Addr} {ca : List Addr} {cs : List (List Int)} {up : Int → Option Int} {fs c : List Int} {w : Int} (h : Chs H A ca cs up fs) (s : Same H H') (hr : H' r = some (.tup (c.map V.int))) (hc : ChainOf up w c) : Chs (upd H' A (.lst (ca.map V.ref ++ [.ref r]))) A (ca ++ [r]) (cs ++ [c]) up (fs ++ [w]) := by
  have hA := s _ _ h.hA
  refine ⟨by rw [updS, List.map_append]; rfl, by rw [List.length_append, List.length_append, h.lc]; rfl, by rw [List.length_append, List.length_append, h.lf]; rfl, fun i a d h1 h2 => ?_, fun i f d h1 h2 => ?_⟩
  · rcases snoc_get h1 with ⟨hi, h1⟩ | ⟨hi, rfl⟩
    · rcases snoc_get h2 with ⟨_, h2⟩ | ⟨hj, _⟩
      · have q := s _ _ (h.pt i a d h1 h2)
        exact updN (ne_of q hA (by intro z; cases z)) q
      · rw [hj, ← h.lc] at hi
        exact absurd hi (Nat.lt_irrefl _)
    · rcases snoc_get h2 with ⟨hj, _⟩ | ⟨_, rfl⟩
      · rw [hi, h.lc] at hj
        exact absurd hj (Nat.lt_irrefl _)
      · exact updN (ne_of hr hA (by intro z; cases z)) hr
  · rcases snoc_get h1 with ⟨hi, h1⟩ | ⟨hi, rfl⟩
    · rcases snoc_get h2 with ⟨_, h2⟩ | ⟨hj, _⟩
      · exact h.ch i f d h1 h2
      · rw [hj, h.lf] at hi
        exact absurd hi (Nat.lt_irrefl _)
    · rcases snoc_get h2 with ⟨hj, _⟩ | ⟨_, rfl⟩
      · rw [hi, h.lf] at hj
        exact absurd hj (Nat.lt_irrefl _)
      · exact hc
theorem pure_cover (h : sp_cover K vs H Q E) : t_cover K { nx := fun _ H' => Q .non H', rt := Q } (start N_cover vs) H := by
  obtain ⟨p, ws, ls, rfl, pc, sh, g, hw, hl, k⟩ := h
  have nd : ws.Nodup := rising_nodup g.inc
  refine ⟨_, rfl, p, ws, ls, rfl, sh, g, by omega, hl, fun Un as f H1 s1 nU nas ua hf fnd => ?_⟩
  intro x dx nx ndx nxd
  have s2 : Same H1 (upd (upd H1 dx (.own x)) x (.ins (He.ga K "Pairing") dx [])) := (samNew ndx).trans (samNew (by rw [upd_ne (fun z => nxd z.symm)]; exact nx))
  have ua2 : UAt (upd (upd H1 dx (.own x)) x (.ins (He.ga K "Pairing") dx [])) Un ws as f := ⟨ua.len, ua.nd, ua.out, s2 _ _ ua.top, fun i a w h1 h2 => s2 _ _ (ua.row i a w h1 h2)⟩
  have fok : ∀ w u, u ∈ f w → u ∈ ws ∧ u < w := fun w u hu => by
    obtain ⟨l, hl1, hd⟩ := (hf w u).mp hu
    obtain ⟨_, m2, m3⟩ := g.mem _ hl1
    have m3 : l < w := m3
    have := Dn.le g hd
    exact ⟨Dn.mem g hd m2, by omega⟩
  refine ⟨x, dx, Un, ws, as, f, rfl, pc, updS, ua2, nd, by omega, fnd, fok, g.inc, fun N L U C H3 keep fr ps => ⟨rfl, ?_⟩⟩
  have nfo : NfOk ws ls (nearF ws f) := ⟨fun w u => (mem_nearF fun q => (fok w u q).1).trans (hf w u), f, rfl⟩
  have nxH : ∀ b o, H1 b = some o → b ≠ x := fun b o e => ne_of_none e nx
  have s3 : Same H1 H3 := fun b o e => keep b o (s2 b o e) (nxH b o e)
  have s13 : Same H H3 := s1.trans s3
  have free : ∀ b o, H1 b = some o → b ≠ L ∧ b ≠ U ∧ b ≠ C := fun b o e => ⟨ne_of_none (s2 b o e) fr.1, ne_of_none (s2 b o e) fr.2.1, ne_of_none (s2 b o e) fr.2.2⟩
  clear s2 ua2 keep fr
  generalize nearF ws f = nf at ps nfo
  show t_cover_loop K { nx := fun _ H' => Q .non H', rt := Q } [some (.ref p), some (.ref x), none, none, none] H3
  have sh1 : ShapeAt H1 p ws ls := sh.mono fun a xs e => s1 _ _ e
  obtain ⟨a0, r0, rs, hp, ha0, hr0, lk⟩ := sh1
  have intw : ∀ {i : Nat} {y : V}, (ws.map V.int)[i]? = some y → ∃ w, y = .int w ∧ ws[i]? = some w := fun {i y} hx => by
    rw [List.getElem?_map] at hx
    cases e : ws[i]? with
    | none => rw [e] at hx; cases hx
    | some w => rw [e] at hx; exact ⟨w, (Option.some.inj hx).symm, rfl⟩
  refine ⟨_, rfl, ixT (s3 _ _ hp) rfl ⟨a0, rfl, ⟨_, sqT (s3 _ _ ha0)⟩, ?_⟩⟩
  refine for_tup (K := K) (a := a0) (xs := ws.map V.int) (fun i σ H' => Same H1 H' ∧ (∃ lo up cl, PS K H' x N L U C ws nf lo up cl (401 * i) ∧ Mt ws (ws.take i) lo up ∧ Runs nf (ws.take i) lo up cl) ∧ ∃ z2, σ = [some (.ref p), some (.ref x), z2, none, none]) ⟨s3, ⟨_, _, _, ps, ⟨fun u l => ⟨(fun e => by cases e), fun e => by cases e⟩, fun u l e => by cases e⟩, .nil⟩, none, rfl⟩ (fun i σ H' _ q => sqT (q.1 _ _ ha0)) ?_ ?_
  · rintro i y σ H4 hy ⟨s4, ⟨lo, up, cl, p4, m4, r4⟩, z2, rfl⟩
    obtain ⟨w, rfl, ew⟩ := intw hy
    obtain ⟨hi, ei⟩ := List.getElem?_eq_some_iff.mp ew
    obtain ⟨dx4, fs4, hx4, f1, f2, f3, f4, f5, f6, f7, f8⟩ := id p4.po
    refine ⟨_, rfl, x, dx4, fs4, rfl, hx4, f5, _, rfl, x, N, L, U, C, ws, ws.take i, w, nf, cl, lo, up, 401 * i, rfl, pc, p4, m4, List.mem_of_getElem? ew, fun hm => ?_, fun u hu => List.mem_of_mem_take hu, by omega, by omega, fun lo' up' cl' H5 k5 p5 m5 pr => ?_⟩
    · obtain ⟨j, hj, e⟩ := List.getElem_of_mem hm
      rw [List.length_take] at hj
      rw [List.getElem_take] at e
      have : j = i := (List.getElem_inj nd).mp (e.trans ei.symm)
      omega
    · refine ⟨fun b o e => k5 b o (s4 b o e) (free b o e).1 (free b o e).2.1 (free b o e).2.2, ⟨lo', up', cl', p5.le (by omega), ?_, ?_⟩, _, rfl⟩
      · rw [take_snoc ew]
        exact m5
      · rw [take_snoc ew]
        exact .snoc r4 pr
  · rintro σ H4 ⟨s4, ⟨lo, up, cl, p4, m4, r4⟩, z2, rfl⟩
    rw [List.length_map] at p4
    rw [List.length_map, List.take_length] at m4 r4
    show t_cover_chains K { nx := fun _ H' => Q .non H', rt := Q } [some (.ref p), some (.ref x), z2, none, none] H4
    have hp4 := s4 _ _ hp
    have ha4 := s4 _ _ ha0
    -- chains
    refine ⟨_, rfl, ixT hp4 rfl ⟨a0, rfl, ⟨_, sqT ha4⟩, fun A nA => ?_⟩⟩
    refine lc_it (walk_tup (xs := ws.map V.int)) (fun i H' => Same H4 H' ∧ ∃ ca cs, Chs H' A ca cs up ((ws.take i).filter (freeB lo))) ⟨samNew nA, [], [], updS, rfl, rfl, (fun i a c h => by cases h), fun i a c h => by cases h⟩ (fun i H' _ q => sqT (q.1 _ _ ha4)) ?_ ?_
    · rintro i y H5 H6 hi ⟨s5, ca, cs, ch5⟩ ⟨rfl, hy⟩
      obtain ⟨w, rfl, ew⟩ := intw hy
      have p5 := p4.same s5
      obtain ⟨dx5, fs5, hx5, f1, f2, f3, f4, f5, f6, f7, f8⟩ := id p5.po
      obtain ⟨lk5, gL, _, vL⟩ := id p5.hL
      refine ⟨rfl, _, rfl, _, rfl, x, _, dx5, fs5, _, rfl, hx5, pc.cl, pc.n2, f2, L, _, rfl, .inl ⟨_, .inl w, .inl gL, rfl, rfl⟩, _, rfl, ?_⟩
      rw [vL w, filt_snoc ew]
      cases el : lo w with
      | some l =>
        refine iteF ⟨s5, ca, cs, ?_⟩
        rw [if_neg (by unfold freeB; rw [el]; exact Bool.false_ne_true), List.append_nil]
        exact ch5
      | none =>
      refine iteT ?_
      rw [if_pos (by unfold freeB; rw [el]; rfl)]
      refine ⟨_, rfl, x, dx5, fs5, rfl, hx5, f7, _, rfl, x, N, L, U, C, ws, ws, w, nf, cl, lo, up, _, rfl, pc, p5, m4, List.mem_of_getElem? ew, fun u hu => hu, by omega, fun r c H7 s7 hr hc => ?_⟩
      refine ⟨_, s7 _ _ ch5.hA, ?_, Same.updF (s5.trans s7) nA, _, _, ch5.snoc s7 hr hc⟩
      rw [List.length_map, ch5.lc, ch5.lf]
      have := List.length_filter_le (freeB lo) (ws.take i)
      rw [List.length_take] at this
      exact Nat.lt_of_le_of_lt (show ((ws.take i).filter (freeB lo)).length ≤ 1000 by omega) (by decide)
    rintro H5 ⟨s5, ca, cs, ch5⟩
    rw [List.length_map, List.take_length] at ch5
    show t_cover_apart K { nx := fun _ H' => Q .non H', rt := Q } [some (.ref p), some (.ref x), z2, some (.ref A), none] H5
    have ha5 := s5 _ _ ha4
    have p5 := p4.same s5
    refine ⟨_, rfl, ixT (s5 _ _ hp4) rfl ⟨a0, rfl, ⟨_, sqT ha5⟩, fun B nB => ?_⟩⟩
    refine lc_it (walk_tup (xs := ws.map V.int)) (fun i H' => Same H5 H' ∧ H' B = some (.lst (((ws.take i).filter (apB lo cl)).map V.int))) ⟨samNew nB, updS⟩ (fun i H' _ q => sqT (q.1 _ _ ha5)) ?_ ?_
    · rintro i y H6 H7 hi ⟨s6, hB6⟩ ⟨rfl, hy⟩
      obtain ⟨w, rfl, ew⟩ := intw hy
      have p6 := p5.same s6
      obtain ⟨dx6, fs6, hx6, f1, f2, f3, f4, f5, f6, f7, f8⟩ := id p6.po
      refine ⟨rfl, _, rfl, x, dx6, fs6, rfl, hx6, f8, _, rfl, x, N, L, U, C, ws, w, nf, cl, lo, up, _, rfl, pc, p6, _, rfl, ?_⟩
      rw [filt_snoc ew]
      refine ite2 (fun ea => ?_) fun ea => ?_
      · rw [if_pos ea]
        refine ⟨_, rfl, _, hB6, ?_, Same.updF s6 nB, ?_⟩
        · rw [List.length_map]
          have := List.length_filter_le (apB lo cl) (ws.take i)
          rw [List.length_take] at this
          exact Nat.lt_of_le_of_lt (show ((ws.take i).filter (apB lo cl)).length ≤ 1000 by omega) (by decide)
        · rw [updS, List.map_append]
          rfl
      · rw [if_neg ea, List.append_nil]
        exact ⟨s6, hB6⟩
    rintro H6 ⟨s6, hB6⟩
    rw [List.length_map, List.take_length] at hB6
    refine ⟨_, rfl, A, _, rfl, .inl ⟨sqL (s6 _ _ ch5.hA), fun ta nta => ⟨_, rfl, B, _, rfl, .inl ⟨sqL (samNew nta _ _ hB6), fun tb ntb => ⟨by show (2 : Nat) ≤ sizeLine; decide, fun r nr => k r _ cs _ nf lo up cl ?_ ⟨ta, tb, ca, updS, ?_, ?_, ch5.lc, fun i a c h1 h2 => ?_⟩ ⟨nfo, r4, m4, ⟨ch5.lf, ch5.ch⟩, rfl⟩⟩⟩⟩⟩⟩
    · exact ((((s1.trans s4).trans s5).trans s6).trans ((samNew nta).trans (samNew ntb))).trans (samNew nr)
    · exact samNew nr _ _ (samNew ntb _ _ updS)
    · exact samNew nr _ _ updS
    · exact samNew nr _ _ (samNew ntb _ _ (samNew nta _ _ (s6 _ _ (ch5.pt i a c h1 h2))))
end
end Fw

set_option Elab.async false
set_option linter.all false
set_option maxRecDepth 100000
set_option maxHeartbeats 4000000
namespace Fw
open PySem L2 RZ RT
theorem ref_at {as : List Addr} {i : Nat} {x : V} (hx : (as.map V.ref)[i]? = some x) : ∃ a, x = .ref a ∧ as[i]? = some a := by
  rw [List.getElem?_map] at hx
  cases e : as[i]? with
  | none => rw [e] at hx; cases hx
  | some a => rw [e] at hx; exact ⟨a, (Option.some.inj hx).symm, rfl⟩
theorem int_at {l : List Int} {i : Nat} {x : V} (hx : (l.map V.int)[i]? = some x) : ∃ w, x = .int w ∧ l[i]? = some w := by
  rw [List.getElem?_map] at hx
  cases e : l[i]? with
  | none => rw [e] at hx; cases hx
  | some w => rw [e] at hx; exact ⟨w, (Option.some.inj hx).symm, rfl⟩
/-! ### steps to one that is answered -/
def ov : Option Int → V
  | none => .non
  | some u => .int u
/-- the dict says d -/
def DictO (kvs : List (Key × V)) (d : Int → Option (Option Int)) : Prop := ∀ v : Int, valV kvs (.inl v) = (d v).map ov
def setO (d : Int → Option (Option Int)) (v : Int) (x : Option Int) : Int → Option (Option Int) := fun w => if w = v then some x else d w
theorem setO_eq {d : Int → Option (Option Int)} {v : Int} {x : Option Int} : setO d v x v = some x := if_pos rfl
theorem setO_ne {d : Int → Option (Option Int)} {v w : Int} {x : Option Int} (h : w ≠ v) : setO d v x w = d w := if_neg h
theorem DictO.put {kvs : List (Key × V)} {d : Int → Option (Option Int)} (h : DictO kvs d) (v : Int) (x : Option Int) : DictO (putK kvs (.inl v) (ov x)) (setO d v x) := fun w => by
  rw [valV_put]
  by_cases e : w = v
  · rw [if_pos (by rw [e]), e, setO_eq]
    rfl
  · rw [if_neg (fun z => e (Sum.inl.inj z)), setO_ne e]
    exact h w
/-- steps: none just for those answered; else to one that has a step itself, nearer by a link -/
structure StI (src : Int → Prop) (nb : Int → Int → Prop) (d : Int → Option (Option Int)) : Prop where
  y : ∀ v, d v = some none ↔ src v
  st : ∀ v u, d v = some (some u) → nb u v ∧ (d u).isSome = true
theorem StI.step {src : Int → Prop} {nb : Int → Int → Prop} {d : Int → Option (Option Int)} (h : StI src nb d) {f t : Int} (hf : (d f).isSome = true) (ht : d t = none) (hn : nb f t) : StI src nb (setO d t (some f)) := by
  refine ⟨fun v => ?_, fun v u e => ?_⟩
  · by_cases q : v = t
    · subst q
      rw [setO_eq]
      refine ⟨fun z => (by cases z), fun z => ?_⟩
      rw [(h.y v).mpr z] at ht
      cases ht
    · rw [setO_ne q]
      exact h.y v
  · have up : ∀ w, (d w).isSome = true → (setO d t (some f) w).isSome = true := fun w hw => by
      by_cases q : w = t
      · subst q
        rw [setO_eq]
        rfl
      · rw [setO_ne q]
        exact hw
    by_cases q : v = t
    · subst q
      rw [setO_eq] at e
      cases Option.some.inj (Option.some.inj e)
      exact ⟨hn, up _ hf⟩
    · rw [setO_ne q] at e
      obtain ⟨h1, h2⟩ := h.st v u e
      exact ⟨h1, up u h2⟩
theorem set_some {d : Int → Option (Option Int)} {t : Int} {x : Option Int} {w : Int} : (setO d t x w).isSome = true ↔ (d w).isSome = true ∨ w = t := by
  by_cases q : w = t
  · subst q
    rw [setO_eq]
    exact ⟨fun _ => .inr rfl, fun _ => rfl⟩
  · rw [setO_ne q]
    exact ⟨.inl, fun h => h.elim id fun z => absurd z q⟩
/-- followed to the end -/
def Fol (d : Int → Option (Option Int)) (v : Int) (wk : List Int) : Prop := wk[0]? = some v ∧ ∀ (i : Nat) (x : Int), wk[i]? = some x → d x = some wk[i + 1]?
def d0 (b : Bool) (ans : List (Int × Bool)) : Int → Option (Option Int) := fun v => if (v, b) ∈ ans then some none else none
def stepU (l : Int × Int) (d : Int → Option (Option Int)) : Int → Option (Option Int) := if (d l.1).isSome = true then (if (d l.2).isSome = true then d else setO d l.2 (some l.1)) else d
def stepD (d : Int → Option (Option Int)) (l : Int × Int) : Int → Option (Option Int) := if (d l.2).isSome = true then (if (d l.1).isSome = true then d else setO d l.1 (some l.2)) else d
def dUp (ls : List (Int × Int)) (ans : List (Int × Bool)) : Int → Option (Option Int) := ls.foldr stepU (d0 true ans)
def dDn (ls : List (Int × Int)) (ans : List (Int × Bool)) : Int → Option (Option Int) := ls.foldl stepD (d0 false ans)
theorem Fol.uniq {d : Int → Option (Option Int)} {v : Int} {xs ys : List Int} (h : Fol d v xs) (g : Fol d v ys) : xs = ys := by
  refine List.ext_getElem? fun i => ?_
  induction i with
  | zero => rw [h.1, g.1]
  | succ i ih =>
    cases e : xs[i]? with
    | some x =>
      have h1 := h.2 i x e
      rw [g.2 i x (by rw [← ih]; exact e)] at h1
      exact (Option.some.inj h1).symm
    | none =>
      rw [List.getElem?_eq_none_iff] at e
      have e2 := List.getElem?_eq_none_iff.mp (ih ▸ List.getElem?_eq_none_iff.mpr e : ys[i]? = none)
      rw [List.getElem?_eq_none_iff.mpr (by omega), List.getElem?_eq_none_iff.mpr (by omega)]
def sp_followed (_ : PySem.W.Frag) : Sp := fun vs H Q _ => ∃ (S : Addr) (v : Int) (kvs : List (Key × V)) (d : Int → Option (Option Int)) (mu : Int → Nat), vs = [.ref S, .int v] ∧ H S = some (.dK kvs) ∧ DictO kvs d ∧ (d v).isSome = true ∧ (∀ x u, d x = some (some u) → (d u).isSome = true ∧ mu u < mu x) ∧ mu v ≤ 1000 ∧
  ∀ (W : Addr) (wk : List Int) (H' : Hp), Same H H' → H W = none → H' W = some (.lst (wk.map V.int)) → Fol d v wk → wk.length ≤ mu v + 1 → Q (.ref W) H'
def sp_steps_up (_ : PySem.W.Frag) : Sp := fun vs H Q _ => ∃ (p q : Addr) (ws : List Int) (ls : List (Int × Int)) (ans : List (Int × Bool)), vs = [.ref p, .ref q] ∧ ShapeAt H p ws ls ∧ Good ws ls ∧ ls.length ≤ 10000 ∧ AnsAt H q ans ∧ ans.length ≤ 1000 ∧ (ans.map (·.1)).Nodup ∧
  ∀ (L : Addr) (kvs : List (Key × V)) (d : Int → Option (Option Int)) (H' : Hp), Same H H' → H L = none → H' L = some (.dK kvs) → DictO kvs d → StI (fun v => (v, true) ∈ ans) (fun u v => (u, v) ∈ ls) d → (∀ v, (d v).isSome = hasB ls ans v) → d = dUp ls ans → Q (.ref L) H'
def sp_steps_down (_ : PySem.W.Frag) : Sp := fun vs H Q _ => ∃ (p q : Addr) (ws : List Int) (ls : List (Int × Int)) (ans : List (Int × Bool)), vs = [.ref p, .ref q] ∧ ShapeAt H p ws ls ∧ Good ws ls ∧ ls.length ≤ 10000 ∧ AnsAt H q ans ∧ ans.length ≤ 1000 ∧ (ans.map (·.1)).Nodup ∧
  ∀ (L : Addr) (kvs : List (Key × V)) (d : Int → Option (Option Int)) (H' : Hp), Same H H' → H L = none → H' L = some (.dK kvs) → DictO kvs d → StI (fun v => (v, false) ∈ ans) (fun u v => (v, u) ∈ ls) d → (∀ v, (d v).isSome = lacB ls ans v) → d = dDn ls ans → Q (.ref L) H'
abbrev N_followed : List Str := ["steps", "version", "walk"]
def t_followed (K : PySem.W.Frag) : TS := (tSeq (tAsg (tLst (tCons (tVar 1) tNil)) (gName 2))
    (tSeq (tWhile (tTest (tOp fNotN (tDGet (tVar 0) (tOp (rIx K) (tVar 2) (tUn rNegI (tC (.int 1))))) (tC .non))) (tDrop (tBM K "list" rAppend (tVar 2) (tCons (tDGet (tVar 0) (tOp (rIx K) (tVar 2) (tUn rNegI (tC (.int 1))))) tNil))))
    (tRet (tVar 2))))
abbrev N_steps_up : List Str := ["shape", "answers", "above", "version", "truth", "upper", "lower"]
def t_steps_up (K : PySem.W.Frag) : TS := (tSeq (tAsg (tDc (iTup K (tVar 1)) (gTup K 2 (gCons (gName 3) (gCons (gName 4) gNil))) (tB (tVar 4)) (tVar 3) (tC .non) [3, 4]) (gName 2))
    (tSeq (tFor (iRevA K (tOp (rIx K) (tVar 0) (tC (.int 1)))) (gTup K 2 (gCons (gName 5) (gCons (gName 6) gNil))) (tIfS (tB (tDIn (tVar 5) (tVar 2))) (tDrop (tDSetd (tVar 2) (tVar 6) (tVar 5))) tNext))
    (tRet (tVar 2))))
abbrev N_steps_down : List Str := ["shape", "answers", "under", "version", "truth", "upper", "lower"]
def t_steps_down (K : PySem.W.Frag) : TS := (tSeq (tAsg (tDc (iTup K (tVar 1)) (gTup K 2 (gCons (gName 3) (gCons (gName 4) gNil))) (tNot (tB (tVar 4))) (tVar 3) (tC .non) [3, 4]) (gName 2))
    (tSeq (tFor (iTup K (tOp (rIx K) (tVar 0) (tC (.int 1)))) (gTup K 2 (gCons (gName 5) (gCons (gName 6) gNil))) (tIfS (tB (tDIn (tVar 6) (tVar 2))) (tDrop (tDSetd (tVar 2) (tVar 5) (tVar 6))) tNext))
    (tRet (tVar 2))))
section
variable {K : PySem.W.Frag} {vs : List V} {H : Hp} {Q : VK} {E : XK}
theorem len_followed (h : sp_followed K vs H Q E) : vs.length = 2 := by obtain ⟨_, _, _, _, _, rfl, _⟩ := h; rfl
theorem len_steps_up (h : sp_steps_up K vs H Q E) : vs.length = 2 := by obtain ⟨_, _, _, _, _, rfl, _⟩ := h; rfl
theorem len_steps_down (h : sp_steps_down K vs H Q E) : vs.length = 2 := by obtain ⟨_, _, _, _, _, rfl, _⟩ := h; rfl
def lastAt (W : Addr) (H : Hp) : V := match H W with
  | some (.lst xs) => xs.getLastD .non
  | _ => .non
def muV (mu : Int → Nat) : V → Nat
  | .int i => mu i
  | _ => 0
theorem pure_followed (h : sp_followed K vs H Q E) : t_followed K { nx := fun _ H' => Q .non H', rt := Q } (start N_followed vs) H := by
  obtain ⟨S, v, kvs, d, mu, rfl, hS, hd, hv, hst, hmu, k⟩ := h
  refine ⟨_, rfl, by show (1 : Nat) ≤ sizeLine; decide, fun W nW => ?_⟩
  have nSW : S ≠ W := ne_of_none hS nW
  show tSeq (tWhile _ _) _ _ [some (.ref S), some (.int v), some (.ref W)] _
  have lastOf : ∀ (ys : List Int) (l : Int) (H' : Hp), H' W = some (.lst ((ys ++ [l]).map V.int)) → lastAt W H' = .int l := fun ys l H' e => by
    unfold lastAt
    rw [e]
    show ((ys ++ [l]).map V.int).getLastD .non = _
    rw [List.map_append, List.map_singleton]
    simp
  refine while_by (fun σ H' => ∃ (ys : List Int) (l : Int), σ = [some (.ref S), some (.int v), some (.ref W)] ∧ Same H H' ∧ H' W = some (.lst ((ys ++ [l]).map V.int)) ∧ (d l).isSome = true ∧ (ys ++ [l])[0]? = some v ∧ (∀ i x, ys[i]? = some x → d x = some (ys ++ [l])[i + 1]?) ∧ ys.length + mu l ≤ mu v) (fun _ H' => muV mu (lastAt W H')) ⟨[], v, rfl, samNew nW, updS, hv, rfl, (fun i x h => by cases h), by rw [List.length_nil]; omega⟩ ?_ ?_
  · rintro σ H1 ⟨ys, l, rfl, s1, hW, hl, h0, hn, hle⟩
    have el : atI ((ys ++ [l]).map V.int) (-1) = some (.int l) := by
      rw [List.map_append, List.map_singleton]
      exact at_last
    obtain ⟨o, eo⟩ := Option.isSome_iff_exists.mp hl
    have gv : some (ov o) = valV kvs (.inl l) := by rw [hd l, eo]; rfl
    refine ⟨_, rfl, _, rfl, _, rfl, ixL hW el ⟨S, ov o, rfl, .inl ⟨kvs, .inl l, .inl (s1 _ _ hS), rfl, gv⟩, ?_⟩⟩
    cases o with
    | none =>
      refine ⟨rfl, _, rfl, iteF ⟨_, rfl, k W (ys ++ [l]) H1 s1 nW hW ⟨h0, fun i x hx => ?_⟩ ?_⟩⟩
      · by_cases hi : i < ys.length
        · rw [List.getElem?_append_left hi] at hx
          exact hn i x hx
        · have hi2 := (List.getElem?_eq_some_iff.mp hx).1
          rw [List.length_append, List.length_singleton] at hi2
          have e0 : i - ys.length = 0 := by omega
          rw [List.getElem?_append_right (by omega), e0] at hx
          cases Option.some.inj hx
          rw [eo, List.getElem?_eq_none_iff.mpr (by rw [List.length_append, List.length_singleton]; omega)]
      · rw [List.length_append, List.length_singleton]
        omega
    | some u =>
      obtain ⟨hu, hlt⟩ := hst l u eo
      refine ⟨rfl, _, rfl, iteT ⟨_, rfl, .inl ⟨rfl, _, sqL hW⟩, _, rfl, _, rfl, _, rfl, ixL hW el ⟨S, .int u, rfl, .inl ⟨kvs, .inl l, .inl (s1 _ _ hS), rfl, gv⟩, W, _, _, rfl, rfl, hW, ?_, ?_⟩⟩⟩
      · rw [List.length_map, List.length_append, List.length_singleton]
        exact Nat.lt_of_le_of_lt (show ys.length + 1 ≤ 2000 by omega) (by decide)
      have eL : (ys ++ [l]).map V.int ++ [V.int u] = (ys ++ [l] ++ [u]).map V.int := by rw [List.map_append (l₁ := ys ++ [l])]; rfl
      rw [eL]
      refine ⟨⟨ys ++ [l], u, rfl, Same.updF s1 nW, updS, hu, ?_, fun i x hx => ?_, by rw [List.length_append, List.length_singleton]; omega⟩, ?_⟩
      · rw [List.getElem?_append_left (by rw [List.length_append, List.length_singleton]; omega)]
        exact h0
      · by_cases hi : i < ys.length
        · rw [List.getElem?_append_left hi] at hx
          rw [hn i x hx, List.getElem?_append_left (l₁ := ys ++ [l]) (by rw [List.length_append, List.length_singleton]; omega)]
        · have hi2 := (List.getElem?_eq_some_iff.mp hx).1
          rw [List.length_append, List.length_singleton] at hi2
          have e0 : i - ys.length = 0 := by omega
          rw [List.getElem?_append_right (by omega), e0] at hx
          cases Option.some.inj hx
          have e1 : i + 1 - (ys ++ [l]).length = 0 := by rw [List.length_append, List.length_singleton]; omega
          rw [eo, List.getElem?_append_right (by rw [List.length_append, List.length_singleton]; omega), e1]
          rfl
      · show muV mu (lastAt W _) < muV mu (lastAt W H1)
        rw [lastOf ys l H1 hW, lastOf (ys ++ [l]) u _ updS]
        exact hlt
  · intro σ H Q Q' f h
    obtain ⟨v, e, w, e2, u, e3, h⟩ := h
    refine ⟨v, e, w, e2, u, e3, ix_mono (fun y H1 q => ?_) h⟩
    obtain ⟨a2, o, q5, q6, q7, b2, q8, q9⟩ := q
    exact ⟨a2, o, q5, q6, q7, b2, q8, f _ _ q9⟩
theorem pure_steps_up (h : sp_steps_up K vs H Q E) : t_steps_up K { nx := fun _ H' => Q .non H', rt := Q } (start N_steps_up vs) H := by
  obtain ⟨p, q, ws, ls, ans, rfl, ⟨a0, r, rs, hp, ha0, hr, lk⟩, g, hlz, ⟨as, hq, hal, has⟩, hasz, nd, k⟩ := h
  refine ⟨_, rfl, q, rfl, ⟨_, sqT hq⟩, fun L nL => ?_⟩
  have up : ∀ kvs, Same H (upd H L (.dK kvs)) := fun kvs b o e => updN (ne_of_none e nL) e
  refine dc_any (walk_tup (xs := as.map V.ref)) (fun i H2 => ∃ (kvs : List (Key × V)) (d : Int → Option (Option Int)), H2 = upd H L (.dK kvs) ∧ DictO kvs d ∧ kvs.length ≤ i ∧ ∀ v, d v = if (v, true) ∈ ans.take i then some none else none) ⟨[], fun _ => none, rfl, fun _ => rfl, Nat.le_refl _, fun v => by rw [List.take_zero, if_neg (fun z => nomatch z)]⟩ (fun i H2 _ ⟨kvs, d, e, _⟩ => by rw [e]; exact sqT (up _ _ _ hq)) ?_ ?_
  · rintro i x H2 H3 hi ⟨kvs, d, rfl, hd, hkl, hdv⟩ ⟨rfl, hx⟩
    obtain ⟨a, rfl, ea⟩ := ref_at hx
    have hi2 : i < ans.length := by rw [← hal]; exact (List.getElem?_eq_some_iff.mp ea).1
    have ee : ans[i]? = some ans[i] := List.getElem?_eq_getElem hi2
    generalize ans[i] = e at ee
    obtain ⟨v, b⟩ := e
    have hb := up kvs _ _ (has i a _ ea ee)
    have tk : ans.take (i + 1) = ans.take i ++ [(v, b)] := take_snoc ee
    refine ⟨a, [.int v, .bl b], rfl, sqT hb, rfl, _, [.bl b], rfl, _, [], rfl, rfl, rfl, _, rfl, _, rfl, ?_⟩
    cases b with
    | false =>
      refine iteF ⟨kvs, d, rfl, hd, by omega, fun w => ?_⟩
      rw [hdv w, tk]
      have : (w, true) ∈ ans.take i ++ [(v, false)] ↔ (w, true) ∈ ans.take i := by
        rw [List.mem_append, List.mem_singleton]
        exact ⟨fun h => h.elim id (fun z => by cases z), Or.inl⟩
      simp only [this]
    | true =>
      refine iteT ⟨_, rfl, kvs, Sum.inl v, rfl, updS, Nat.lt_of_le_of_lt (show kvs.length ≤ 1000 by omega) (by decide), putK kvs (.inl v) (ov none), setO d v none, by rw [upd_upd]; rfl, hd.put v none, ?_, fun w => ?_⟩
      · exact Nat.le_trans (length_putK _ _ _) (by omega)
      · rw [tk]
        by_cases e : w = v
        · subst e
          rw [setO_eq, if_pos (List.mem_append_right _ (List.mem_singleton.mpr rfl))]
        · rw [setO_ne e, hdv w]
          have : (w, true) ∈ ans.take i ++ [(v, true)] ↔ (w, true) ∈ ans.take i := by
            rw [List.mem_append, List.mem_singleton]
            exact ⟨fun h => h.elim id fun z => absurd (Prod.mk.inj z).1 e, Or.inl⟩
          simp only [this]
  rintro H2 ⟨kvs, d, rfl, hd, hkl, hdv⟩
  rw [List.length_map, hal, List.take_length] at hdv
  rw [List.length_map, hal] at hkl
  have st0 : StI (fun v => (v, true) ∈ ans) (fun u v => (u, v) ∈ ls) d := by
    refine ⟨fun v => ?_, fun v u e => ?_⟩
    · rw [hdv]
      by_cases z : (v, true) ∈ ans
      · rw [if_pos z]; exact ⟨fun _ => z, fun _ => rfl⟩
      · rw [if_neg z]; exact ⟨(fun h => by cases h), fun h => absurd h z⟩
    · rw [hdv] at e
      by_cases z : (v, true) ∈ ans
      · rw [if_pos z] at e; cases Option.some.inj e
      · rw [if_neg z] at e; cases e
  have dom0 : ∀ v, (d v).isSome = (yesL ans).contains v := fun v => by
    rw [hdv, Bool.eq_iff_iff, List.contains_iff_mem, mem_yesL]
    by_cases z : (v, true) ∈ ans
    · rw [if_pos z]; exact ⟨fun _ => z, fun _ => rfl⟩
    · rw [if_neg z]; exact ⟨(fun h => by cases h), fun h => absurd h z⟩
  have hrl : (rs.map V.ref).length = ls.length := by rw [List.length_map, lk.1]
  refine ⟨_, rfl, ixT (up _ _ _ hp) rfl ⟨r, rs.map V.ref, rfl, .inr ⟨sqT (up _ _ _ hr), ?_⟩⟩⟩
  refine for_ItvT (K := K) (a := r) (xs := rs.map V.ref) (fun i σ H2 => ∃ (kvs : List (Key × V)) (d : Int → Option (Option Int)) (z3 z4 z5 z6 : Option V), σ = [some (.ref p), some (.ref q), some (.ref L), z3, z4, z5, z6] ∧ H2 = upd H L (.dK kvs) ∧ DictO kvs d ∧ kvs.length ≤ ans.length + i ∧ StI (fun v => (v, true) ∈ ans) (fun u v => (u, v) ∈ ls) d ∧ (∀ v, (d v).isSome = (lower (ls.drop (ls.length - i)) (yesL ans)).contains v) ∧ d = dUp (ls.drop (ls.length - i)) ans) ?_ ?_ ?_ ?_
  · exact ⟨kvs, d, none, none, none, none, rfl, rfl, hd, hkl, st0, by rw [Nat.sub_zero, List.drop_length]; exact dom0, by rw [Nat.sub_zero, List.drop_length]; exact funext hdv⟩
  · rintro i σ H2 ⟨_, _, _, _, _, _, _, rfl, _⟩
    exact sqT (up _ _ _ hr)
  · rintro i x σ H2 hi hx ⟨kvs, d, z3, z4, z5, z6, rfl, rfl, hd, hkl, st, dom, ef⟩
    rw [hrl] at hi hx
    have hj : ls.length - 1 - i < ls.length := by omega
    obtain ⟨b, rfl, er⟩ := ref_at hx
    have el : ls[ls.length - 1 - i]? = some ls[ls.length - 1 - i] := List.getElem?_eq_getElem hj
    generalize ls[ls.length - 1 - i] = l at el
    have hb := lk.2 _ _ _ er el
    have ed := drop_rev hi el
    have hlm : l ∈ ls := List.mem_of_getElem? el
    refine ⟨b, [.int l.1, .int l.2], rfl, sqT (up _ _ _ hb), rfl, _, [.int l.2], rfl, _, [], rfl, rfl, ?_⟩
    have hkl2 : kvs.length < sizeLine := Nat.lt_of_le_of_lt (show _ ≤ 20000 by omega) (by decide)
    refine ⟨_, rfl, _, rfl, L, _, rfl, DGet.k (k := Sum.inl l.1) updS, _, rfl, ?_⟩
    have e1 : (valV kvs (.inl l.1)).isSome = (d l.1).isSome := by rw [hd l.1, Option.isSome_map]
    rw [e1]
    refine ite2 (fun e => ?_) (fun e => ?_)
    · refine ⟨_, rfl, L, rfl, .inl ⟨kvs, .inl updS⟩, _, rfl, _, rfl, kvs, .inl l.2, updS, rfl, hkl2, fun v hv => ?_, fun hv => ?_⟩
      · have hs : (d l.2).isSome = true := by
          have := hd l.2
          rw [hv] at this
          cases q : d l.2 with
          | none => rw [q] at this; cases this
          | some _ => rfl
        refine ⟨kvs, d, _, _, _, _, rfl, rfl, hd, by omega, st, fun w => ?_, by rw [ed]; show d = stepU l (dUp _ ans); rw [← ef]; unfold stepU; rw [if_pos e, if_pos hs]⟩
        rw [dom w, ed, lower_cons, Bool.eq_iff_iff, List.contains_iff_mem, List.contains_iff_mem, mem_addB]
        refine ⟨.inl, fun h => h.elim id fun ⟨_, z⟩ => ?_⟩
        rw [z, ← List.contains_iff_mem, ← dom]
        exact hs
      · have hn : d l.2 = none := by
          have := hd l.2
          rw [hv] at this
          cases q : d l.2 with
          | none => rfl
          | some _ => rw [q] at this; cases this
        refine ⟨putK kvs (.inl l.2) (ov (some l.1)), setO d l.2 (some l.1), _, _, _, _, rfl, by rw [upd_upd]; rfl, hd.put _ _, Nat.le_trans (length_putK _ _ _) (by omega), st.step e hn hlm, fun w => ?_, by rw [ed]; show _ = stepU l (dUp _ ans); rw [← ef]; unfold stepU; rw [if_pos e, if_neg (by rw [hn]; exact Bool.false_ne_true)]⟩
        rw [ed, lower_cons, Bool.eq_iff_iff, set_some, List.contains_iff_mem, mem_addB, dom w, List.contains_iff_mem]
        refine or_congr Iff.rfl ⟨fun z => ⟨?_, z⟩, fun z => z.2⟩
        rw [← List.contains_iff_mem, ← dom]
        exact e
    · refine ⟨kvs, d, _, _, _, _, rfl, rfl, hd, by omega, st, fun w => ?_, by rw [ed]; show d = stepU l (dUp _ ans); rw [← ef]; unfold stepU; rw [if_neg e]⟩
      rw [dom w, ed, lower_cons, Bool.eq_iff_iff, List.contains_iff_mem, List.contains_iff_mem, mem_addB]
      refine ⟨.inl, fun h => h.elim id fun ⟨z, _⟩ => ?_⟩
      rw [← List.contains_iff_mem, ← dom] at z
      exact absurd z e
  · rintro σ H2 ⟨kvs, d, z3, z4, z5, z6, rfl, rfl, hd, hkl, st, dom, ef⟩
    rw [hrl, Nat.sub_self, List.drop_zero] at dom ef
    exact ⟨_, rfl, k L kvs d _ (up _) nL updS hd st dom ef⟩
theorem pure_steps_down (h : sp_steps_down K vs H Q E) : t_steps_down K { nx := fun _ H' => Q .non H', rt := Q } (start N_steps_down vs) H := by
  obtain ⟨p, q, ws, ls, ans, rfl, ⟨a0, r, rs, hp, ha0, hr, lk⟩, g, hlz, ⟨as, hq, hal, has⟩, hasz, nd, k⟩ := h
  refine ⟨_, rfl, q, rfl, ⟨_, sqT hq⟩, fun L nL => ?_⟩
  have up : ∀ kvs, Same H (upd H L (.dK kvs)) := fun kvs b o e => updN (ne_of_none e nL) e
  refine dc_any (walk_tup (xs := as.map V.ref)) (fun i H2 => ∃ (kvs : List (Key × V)) (d : Int → Option (Option Int)), H2 = upd H L (.dK kvs) ∧ DictO kvs d ∧ kvs.length ≤ i ∧ ∀ v, d v = if (v, false) ∈ ans.take i then some none else none) ⟨[], fun _ => none, rfl, fun _ => rfl, Nat.le_refl _, fun v => by rw [List.take_zero, if_neg (fun z => nomatch z)]⟩ (fun i H2 _ ⟨kvs, d, e, _⟩ => by rw [e]; exact sqT (up _ _ _ hq)) ?_ ?_
  · rintro i x H2 H3 hi ⟨kvs, d, rfl, hd, hkl, hdv⟩ ⟨rfl, hx⟩
    obtain ⟨a, rfl, ea⟩ := ref_at hx
    have hi2 : i < ans.length := by rw [← hal]; exact (List.getElem?_eq_some_iff.mp ea).1
    have ee : ans[i]? = some ans[i] := List.getElem?_eq_getElem hi2
    generalize ans[i] = e at ee
    obtain ⟨v, b⟩ := e
    have hb := up kvs _ _ (has i a _ ea ee)
    have tk : ans.take (i + 1) = ans.take i ++ [(v, b)] := take_snoc ee
    refine ⟨a, [.int v, .bl b], rfl, sqT hb, rfl, _, [.bl b], rfl, _, [], rfl, rfl, rfl, _, rfl, _, rfl, ?_⟩
    cases b with
    | true =>
      refine iteF ⟨kvs, d, rfl, hd, by omega, fun w => ?_⟩
      rw [hdv w, tk]
      have : (w, false) ∈ ans.take i ++ [(v, true)] ↔ (w, false) ∈ ans.take i := by
        rw [List.mem_append, List.mem_singleton]
        exact ⟨fun h => h.elim id (fun z => by cases z), Or.inl⟩
      simp only [this]
    | false =>
      refine iteT ⟨_, rfl, kvs, Sum.inl v, rfl, updS, Nat.lt_of_le_of_lt (show kvs.length ≤ 1000 by omega) (by decide), putK kvs (.inl v) (ov none), setO d v none, by rw [upd_upd]; rfl, hd.put v none, ?_, fun w => ?_⟩
      · exact Nat.le_trans (length_putK _ _ _) (by omega)
      · rw [tk]
        by_cases e : w = v
        · subst e
          rw [setO_eq, if_pos (List.mem_append_right _ (List.mem_singleton.mpr rfl))]
        · rw [setO_ne e, hdv w]
          have : (w, false) ∈ ans.take i ++ [(v, false)] ↔ (w, false) ∈ ans.take i := by
            rw [List.mem_append, List.mem_singleton]
            exact ⟨fun h => h.elim id fun z => absurd (Prod.mk.inj z).1 e, Or.inl⟩
          simp only [this]
  rintro H2 ⟨kvs, d, rfl, hd, hkl, hdv⟩
  rw [List.length_map, hal, List.take_length] at hdv
  rw [List.length_map, hal] at hkl
  have st0 : StI (fun v => (v, false) ∈ ans) (fun u v => (v, u) ∈ ls) d := by
    refine ⟨fun v => ?_, fun v u e => ?_⟩
    · rw [hdv]
      by_cases z : (v, false) ∈ ans
      · rw [if_pos z]; exact ⟨fun _ => z, fun _ => rfl⟩
      · rw [if_neg z]; exact ⟨(fun h => by cases h), fun h => absurd h z⟩
    · rw [hdv] at e
      by_cases z : (v, false) ∈ ans
      · rw [if_pos z] at e; cases Option.some.inj e
      · rw [if_neg z] at e; cases e
  refine ⟨_, rfl, ixT (up _ _ _ hp) rfl ⟨r, rfl, ⟨_, sqT (up _ _ _ hr)⟩, ?_⟩⟩
  refine for_tup (K := K) (a := r) (xs := rs.map V.ref) (fun i σ H2 => ∃ (kvs : List (Key × V)) (d : Int → Option (Option Int)) (z3 z4 z5 z6 : Option V), σ = [some (.ref p), some (.ref q), some (.ref L), z3, z4, z5, z6] ∧ H2 = upd H L (.dK kvs) ∧ DictO kvs d ∧ kvs.length ≤ ans.length + i ∧ StI (fun v => (v, false) ∈ ans) (fun u v => (v, u) ∈ ls) d ∧ (∀ l ∈ ls.take i, (d l.2).isSome = true → (d l.1).isSome = true) ∧ (∀ v, (d v).isSome = true → ∃ u, (u, false) ∈ ans ∧ Dn ls v u) ∧ d = dDn (ls.take i) ans) ?_ ?_ ?_ ?_
  · refine ⟨kvs, d, none, none, none, none, rfl, rfl, hd, hkl, st0, (fun l hl => by rw [List.take_zero] at hl; cases hl), fun v hv => ?_, by rw [List.take_zero]; exact funext hdv⟩
    rw [hdv] at hv
    by_cases z : (v, false) ∈ ans
    · exact ⟨v, z, .refl _⟩
    · rw [if_neg z] at hv; cases hv
  · rintro i σ H2 _ ⟨_, _, _, _, _, _, _, rfl, _⟩
    exact sqT (up _ _ _ hr)
  · rintro i x σ H2 hx ⟨kvs, d, z3, z4, z5, z6, rfl, rfl, hd, hkl, st, cl, snd, ef⟩
    obtain ⟨b, rfl, er⟩ := ref_at hx
    have hi : i < ls.length := by rw [← lk.1]; exact (List.getElem?_eq_some_iff.mp er).1
    have el : ls[i]? = some ls[i] := List.getElem?_eq_getElem hi
    have hlt : ∀ l' ∈ ls.take i, lkLt l' ls[i] := fun l' hl' => by
      obtain ⟨j, hj, e⟩ := List.getElem_of_mem hl'
      rw [List.length_take] at hj
      rw [List.getElem_take] at e
      rw [← e]
      exact List.pairwise_iff_getElem.mp g.lex j i (by omega) hi (by omega)
    generalize ls[i] = l at el hlt
    have hb := up kvs _ _ (lk.2 i b l er el)
    have tk : ls.take (i + 1) = ls.take i ++ [l] := take_snoc el
    have hlm : l ∈ ls := List.mem_of_getElem? el
    obtain ⟨m1, m2, m3⟩ := g.mem l hlm
    refine ⟨b, [.int l.1, .int l.2], rfl, sqT hb, rfl, _, [.int l.2], rfl, _, [], rfl, rfl, ?_⟩
    have hkl2 : kvs.length < sizeLine := Nat.lt_of_le_of_lt (show _ ≤ 20000 by omega) (by decide)
    refine ⟨_, rfl, _, rfl, L, _, rfl, DGet.k (k := Sum.inl l.2) updS, _, rfl, ?_⟩
    have e1 : (valV kvs (.inl l.2)).isSome = (d l.2).isSome := by rw [hd l.2, Option.isSome_map]
    rw [e1]
    have ek : ∀ d', d' = stepD (dDn (ls.take i) ans) l → d' = dDn (ls.take (i + 1)) ans := fun d' h => by
      rw [h, tk]
      unfold dDn
      rw [List.foldl_append]
      rfl
    have same : ((d l.2).isSome = true → (d l.1).isSome = true) → ∀ l' ∈ ls.take (i + 1), (d l'.2).isSome = true → (d l'.1).isSome = true := fun h l' hl' => by
      rw [tk] at hl'
      rcases List.mem_append.mp hl' with hl' | hl'
      · exact cl l' hl'
      · rw [List.mem_singleton.mp hl']
        exact h
    refine ite2 (fun e => ?_) (fun e => ?_)
    · refine ⟨_, rfl, L, rfl, .inl ⟨kvs, .inl updS⟩, _, rfl, _, rfl, kvs, .inl l.1, updS, rfl, hkl2, fun v hv => ?_, fun hv => ?_⟩
      · have hs : (d l.1).isSome = true := by
          have := hd l.1
          rw [hv] at this
          cases q : d l.1 with
          | none => rw [q] at this; cases this
          | some _ => rfl
        exact ⟨kvs, d, _, _, _, _, rfl, rfl, hd, by omega, st, same fun _ => hs, snd, ek _ (by rw [← ef]; unfold stepD; rw [if_pos e, if_pos hs])⟩
      · have hn : d l.1 = none := by
          have := hd l.1
          rw [hv] at this
          cases q : d l.1 with
          | none => rfl
          | some _ => rw [q] at this; cases this
        refine ⟨putK kvs (.inl l.1) (ov (some l.2)), setO d l.1 (some l.2), _, _, _, _, rfl, by rw [upd_upd]; rfl, hd.put _ _, Nat.le_trans (length_putK _ _ _) (by omega), st.step e hn hlm, fun l' hl' h2 => ?_, fun v hv => ?_, ek _ (by rw [← ef]; unfold stepD; rw [if_pos e, if_neg (by rw [hn]; exact Bool.false_ne_true)])⟩
        · rw [tk] at hl'
          rcases List.mem_append.mp hl' with hl' | hl'
          · have ne2 : l'.2 ≠ l.1 := fun z => by
              have h3 := (g.mem l' (List.mem_of_mem_take hl')).2.2
              have h4 := hlt l' hl'
              unfold lkLt at h4
              omega
            rw [setO_ne ne2] at h2
            exact set_some.mpr (.inl (cl l' hl' h2))
          · rw [List.mem_singleton.mp hl']
            exact set_some.mpr (.inr rfl)
        · rcases set_some.mp hv with h | h
          · exact snd v h
          · subst h
            obtain ⟨u, h1, h2⟩ := snd l.2 e
            exact ⟨u, h1, .step hlm h2⟩
    · exact ⟨kvs, d, _, _, _, _, rfl, rfl, hd, by omega, st, same fun h => absurd h e, snd, ek _ (by rw [← ef]; unfold stepD; rw [if_neg e])⟩
  · rintro σ H2 ⟨kvs, d, z3, z4, z5, z6, rfl, rfl, hd, hkl, st, cl, snd, ef⟩
    rw [List.length_map, lk.1, List.take_length] at cl ef
    refine ⟨_, rfl, k L kvs d _ (up _) nL updS hd st (fun v => ?_) ef⟩
    rw [Bool.eq_iff_iff, lacB_iff g]
    refine ⟨snd v, fun ⟨u, h1, h2⟩ => ?_⟩
    have : ∀ {v u : Int}, Dn ls v u → (u, false) ∈ ans → (d v).isSome = true := fun {v u} dn => by
      induction dn with
      | refl w => intro hw; rw [(st.y w).mpr hw]; rfl
      | step hl _ ih => intro hw; exact cl _ hl (ih hw)
    exact this h2 h1
end
end Fw

set_option Elab.async false
set_option linter.all false
set_option maxRecDepth 100000
set_option maxHeartbeats 4000000
namespace Fw
open PySem L2 RZ RT
structure UnsC (K : PySem.W.Frag) : Prop where
  oex : OexC K (He.ga K "Unsettled")
  ve : PySem.W.findIn K (.ref (He.ga K "Unsettled")) "version" = some none
def sp_Unsettled_init (K : PySem.W.Frag) : Sp := fun vs H Q _ => ∃ (a C : Addr) (u : V), vs = [.ref a, u] ∧ OexC K C ∧ PySem.W.findIn K (.ref C) "version" = some none ∧ H a = some (exo a C none) ∧
  ∀ d, H d = none → d ≠ a → Q .non (upd (upd H d (exd d [("version", u)])) a (exo a C (some d)))
abbrev N_Unsettled_init : List Str := ["self", "version"]
def t_Unsettled_init (K : PySem.W.Frag) : TS := (tSeq (tDrop (tVeI K (tCons (tVar 0) (tCons (tC (.str "the answers do not settle all versions")) tNil))))
    (tOst K "version" (tVar 0) (tVar 1)))
theorem len_Unsettled_init {K : PySem.W.Frag} {vs : List V} {H : Hp} {Q : VK} {E : XK} (h : sp_Unsettled_init K vs H Q E) : vs.length = 2 := by
  obtain ⟨_, _, _, rfl, _⟩ := h
  rfl
theorem pure_Unsettled_init {K : PySem.W.Frag} {vs : List V} {H : Hp} {Q : VK} {E : XK} (h : sp_Unsettled_init K vs H Q E) : t_Unsettled_init K { nx := fun _ H' => Q .non H', rt := Q } (start N_Unsettled_init vs) H := by
  obtain ⟨a, C, u, rfl, oe, n1, ha, k⟩ := h
  refine ⟨_, rfl, a, C, _, rfl, (by show (1 : Nat) ≤ 1000; decide), oe, ha, ?_⟩
  exact ⟨_, rfl, _, rfl, a, C, rfl, oe, n1, .inl ⟨ha, fun d nd hd => k d nd hd⟩⟩
/-! ### a paper -/
def word (b : Bool) : Str := if b then "held" else "lacks"
/-- a version's row: by its steps -/
def RowIs (ls : List (Int × Int)) (ans : List (Int × Bool)) (w : Int) (e : Bool × List Int) : Prop := (e.1 = true ∧ hasB ls ans w = true ∧ Fol (dUp ls ans) w e.2.reverse) ∨ (e.1 = false ∧ lacB ls ans w = true ∧ Fol (dDn ls ans) w e.2)
def RowAt (H : Hp) (a : Addr) (e : Bool × List Int) : Prop := ∃ t, H a = some (.tup [.str (word e.1), .ref t]) ∧ H t = some (.tup (e.2.map V.int))
theorem RowAt.mono {H H' : Hp} {a : Addr} {e : Bool × List Int} (h : RowAt H a e) (s : ∀ b xs, H b = some (.tup xs) → H' b = some (.tup xs)) : RowAt H' a e := by
  obtain ⟨t, h1, h2⟩ := h
  exact ⟨t, s _ _ h1, s _ _ h2⟩
structure PapAt (H : Hp) (r : Addr) (pa : List Addr) (rows : List (Bool × List Int)) : Prop where
  top : H r = some (.tup (pa.map V.ref))
  len : pa.length = rows.length
  row : ∀ (i : Nat) (a : Addr) (e : Bool × List Int), pa[i]? = some a → rows[i]? = some e → RowAt H a e
structure PapIs (ws : List Int) (ls : List (Int × Int)) (ans : List (Int × Bool)) (rows : List (Bool × List Int)) : Prop where
  len : rows.length = ws.length
  is : ∀ (i : Nat) (w : Int) (e : Bool × List Int), ws[i]? = some w → rows[i]? = some e → RowIs ls ans w e
  few : ∀ e ∈ rows, e.2.length ≤ 1001
  su : StI (fun v => (v, true) ∈ ans) (fun u v => (u, v) ∈ ls) (dUp ls ans)
  sd : StI (fun v => (v, false) ∈ ans) (fun u v => (v, u) ∈ ls) (dDn ls ans)
def sp_paper (K : PySem.W.Frag) : Sp := fun vs H Q E => ∃ (p q : Addr) (ws : List Int) (ls : List (Int × Int)) (ans : List (Int × Bool)), vs = [.ref p, .ref q] ∧ ShapeAt H p ws ls ∧ Good ws ls ∧ ws.length ≤ 1000 ∧ ls.length ≤ 10000 ∧ AnsAt H q ans ∧ ans.length ≤ 1000 ∧ (ans.map (·.1)).Nodup ∧ (∀ e ∈ ans, e.1 ∈ ws) ∧ ContraryC K ∧ UnsC K ∧
  (NotContrary ls ans → (∀ w ∈ ws, hasB ls ans w = true ∨ lacB ls ans w = true) → ∀ (r : Addr) (pa : List Addr) (rows : List (Bool × List Int)) (H' : Hp), Same H H' → PapAt H' r pa rows → PapIs ws ls ans rows → Q (.ref r) H') ∧
  (NotContrary ls ans → ∀ (v : Int) (rest : List Int), (ws.filter fun w => !hasB ls ans w && !lacB ls ans w) = v :: rest → ∀ d H', Same H H' → H d = none → H' d = some (.xd [("version", .int v)]) → E (.ref (He.ga K "Unsettled")) (some d) H') ∧
  ∀ u m : Int, (u, true) ∈ ans → (m, false) ∈ ans → Dn ls u m → (∀ v y, (v, true) ∈ ans → (y, false) ∈ ans → Dn ls v y → u < v ∨ (u = v ∧ m ≤ y)) → ∀ d H', Same H H' → H d = none → H' d = some (.xd [("lower", .int m), ("upper", .int u)]) → E (.ref (He.ga K "Contrary")) (some d) H'
abbrev N_paper : List Str := ["shape", "answers", "has", "lacks", "left", "above", "under", "pairs", "version"]
def t_paper_end (K : PySem.W.Frag) (E : XK) : TS := (tRet (tCB (fTupleOf K) (tCons (tLc (iTup K (tOp (rIx K) (tVar 0) (tC (.int 0)))) (gName 8) tYes (tDGet (tVar 7) (tVar 8)) [8]) tNil)))
def t_paper_lacks (K : PySem.W.Frag) (E : XK) : TS := (tSeq (tDrop (tBM K "dict" rUpdate (tVar 7) (tCons (tDc (iTup K (tVar 3)) (gName 8) tYes (tVar 8) (tTup (tCons (tC (.str "lacks")) (tCons (tCB (fTupleOf K) (tCons (tCall (sp_followed K) [] E0 (tCons (tVar 6) (tCons (tVar 8) tNil))) tNil)) tNil))) [8]) tNil)))
    (t_paper_end K E))
def t_paper_held (K : PySem.W.Frag) (E : XK) : TS := (tSeq (tAsg (tDc (iTup K (tVar 2)) (gName 8) tYes (tVar 8) (tTup (tCons (tC (.str "held")) (tCons (tCB (fTupleOf K) (tCons (tRevL K (tCall (sp_followed K) [] E0 (tCons (tVar 5) (tCons (tVar 8) tNil)))) tNil)) tNil))) [8]) (gName 7))
    (t_paper_lacks K E))
def t_paper_left (K : PySem.W.Frag) (E : XK) : TS := (tSeq (tIfS (tTru K (tVar 4)) (tRaiseO E (He.ga K "Unsettled") (sp_Unsettled_init K) (tCons (tOp (rIx K) (tVar 4) (tC (.int 0))) tNil)) tNext)
    (tSeq (tAsg (tCall (sp_steps_up K) [] E0 (tCons (tVar 0) (tCons (tVar 1) tNil))) (gName 5))
    (tSeq (tAsg (tCall (sp_steps_down K) [] E0 (tCons (tVar 0) (tCons (tVar 1) tNil))) (gName 6))
    (t_paper_held K E))))
def t_paper (K : PySem.W.Frag) (E : XK) : TS := (tSeq (tAsg (tCallS (sp_settledX K) (fun _ => E) (tCons (tVar 0) (tCons (tVar 1) tNil))) (gTup K 3 (gCons (gName 2) (gCons (gName 3) (gCons (gName 4) gNil)))))
    (t_paper_left K E))
theorem val_mergeK {k : Key} : ∀ (ys xs : List (Key × V)), ys.map (·.1) |>.Nodup → valV (mergeK xs ys) k = (match valV ys k with | some v => some v | none => valV xs k)
  | [], xs, _ => rfl
  | (j, v) :: ys, xs, nd => by
    rw [List.map_cons, List.nodup_cons] at nd
    show valV (mergeK (putK xs j v) ys) k = _
    rw [val_mergeK ys _ nd.2, valV_put]
    by_cases e : k = j
    · subst e
      have h0 : valV ys k = none := by
        unfold valV
        rw [List.find?_eq_none.mpr fun z hz q => nd.1 (List.mem_map.mpr ⟨z, hz, by simpa using q⟩)]
        rfl
      have h1 : valV ((k, v) :: ys) k = some v := by
        unfold valV
        rw [List.find?_cons_of_pos (by simp)]
        rfl
      rw [h0, h1, if_pos rfl]
    · have h1 : valV ((j, v) :: ys) k = valV ys k := by
        unfold valV
        rw [List.find?_cons_of_neg (by simpa using fun z => e z.symm)]
      rw [h1, if_neg e]
/-- pairs so far: rows of those that were gone through -/
structure PrI (H : Hp) (P : Addr) (b : Bool) (ls : List (Int × Int)) (ans : List (Int × Bool)) (vs : List Int) (kvs : List (Key × V)) : Prop where
  at_ : H P = some (.dK kvs)
  len : kvs.length ≤ vs.length
  nd : (kvs.map (·.1)).Nodup
  row : ∀ w ∈ vs, ∃ (a : Addr) (e : Bool × List Int), valV kvs (.inl w) = some (.ref a) ∧ e.1 = b ∧ RowAt H a e ∧ RowIs ls ans w e ∧ e.2.length ≤ 1001
  no : ∀ w, w ∉ vs → valV kvs (.inl w) = none
theorem PrI.snoc {H H' : Hp} {P T t : Addr} {b : Bool} {ls : List (Int × Int)} {ans : List (Int × Bool)} {vs : List Int} {kvs : List (Key × V)} (h : PrI H P b ls ans vs kvs) (s : Same H H') {w : Int} {wk : List Int} (hw : w ∉ vs) (hT : H' T = some (.tup [.str (word b), .ref t])) (ht : H' t = some (.tup (wk.map V.int))) (hr : RowIs ls ans w (b, wk)) (hl : wk.length ≤ 1001) : PrI (upd H' P (.dK (putK kvs (.inl w) (.ref T)))) P b ls ans (vs ++ [w]) (putK kvs (.inl w) (.ref T)) := by
  have hP := s _ _ h.at_
  have keep : ∀ a xs, H' a = some (.tup xs) → upd H' P (.dK (putK kvs (.inl w) (.ref T))) a = some (.tup xs) := fun a xs e => updN (ne_of e hP (by intro z; cases z)) e
  have hn := h.no w hw
  refine ⟨updS, ?_, ?_, fun x hx => ?_, fun x hx => ?_⟩
  · rw [List.length_append, List.length_singleton]
    exact Nat.le_trans (length_putK _ _ _) (Nat.succ_le_succ h.len)
  · rw [putK_new _ hn, List.map_append, List.nodup_append]
    refine ⟨h.nd, List.pairwise_singleton _ _, fun a ha y hy e => ?_⟩
    rw [List.map_singleton, List.mem_singleton] at hy
    rw [hy] at e
    subst e
    obtain ⟨z, hz, e2⟩ := List.mem_map.mp ha
    have hn2 : valV kvs (.inl w) ≠ none := by
      unfold valV
      intro q
      rw [Option.map_eq_none_iff, List.find?_eq_none] at q
      exact q z hz (by simpa using e2)
    exact hn2 hn
  · rcases List.mem_append.mp hx with hx | hx
    · obtain ⟨a, e, h1, h2, h3, h4, h5⟩ := h.row x hx
      refine ⟨a, e, ?_, h2, h3.mono fun b xs q => keep b xs (s _ _ q), h4, h5⟩
      rw [valV_put, if_neg (fun z => hw (by rw [← Sum.inl.inj z]; exact hx))]
      exact h1
    · rw [List.mem_singleton.mp hx]
      exact ⟨T, (b, wk), by rw [valV_put, if_pos rfl], rfl, ⟨t, keep _ _ hT, keep _ _ ht⟩, hr, hl⟩
  · rw [valV_put, if_neg (fun z => hx (by rw [← Sum.inl.inj z]; exact List.mem_append_right _ (List.mem_singleton.mpr rfl)))]
    exact h.no x fun q => hx (List.mem_append_left _ q)
theorem muU_lt {ws : List Int} {x u : Int} (hu : u ∈ ws) (h : x < u) : (ws.filter fun z => decide (u < z)).length < (ws.filter fun z => decide (x < z)).length := by
  have e : (ws.filter fun z => decide (u < z)) = (ws.filter fun z => decide (x < z)).filter fun z => decide (u < z) := by
    rw [List.filter_filter]
    refine List.filter_congr fun z _ => ?_
    by_cases q : u < z
    · rw [decide_eq_true q, decide_eq_true (show x < z by omega)]; rfl
    · rw [decide_eq_false q]; rfl
  rw [e]
  exact List.length_filter_lt_length_iff_exists.mpr ⟨u, List.mem_filter.mpr ⟨hu, decide_eq_true h⟩, by simp⟩
theorem muD_lt {ws : List Int} {x u : Int} (hu : u ∈ ws) (h : u < x) : (ws.filter fun z => decide (z < u)).length < (ws.filter fun z => decide (z < x)).length := by
  have e : (ws.filter fun z => decide (z < u)) = (ws.filter fun z => decide (z < x)).filter fun z => decide (z < u) := by
    rw [List.filter_filter]
    refine List.filter_congr fun z _ => ?_
    by_cases q : z < u
    · rw [decide_eq_true q, decide_eq_true (show z < x by omega)]; rfl
    · rw [decide_eq_false q]; rfl
  rw [e]
  exact List.length_filter_lt_length_iff_exists.mpr ⟨u, List.mem_filter.mpr ⟨hu, decide_eq_true h⟩, by simp⟩
section
variable {K : PySem.W.Frag} {vs : List V} {H : Hp} {Q : VK} {E : XK}
theorem len_paper (h : sp_paper K vs H Q E) : vs.length = 2 := by
  obtain ⟨_, _, _, _, _, rfl, _⟩ := h
  rfl
theorem take_new {l : List Int} (nd : l.Nodup) {i : Nat} {w : Int} (h : l[i]? = some w) : w ∉ l.take i := fun hm => by
  obtain ⟨j, hj, e⟩ := List.getElem_of_mem hm
  rw [List.length_take] at hj
  rw [List.getElem_take] at e
  have := (List.getElem_inj nd).mp (e.trans (List.getElem?_eq_some_iff.mp h).2.symm)
  omega
theorem pure_paper (h : sp_paper K vs H Q E) : t_paper K E { nx := fun _ H' => Q .non H', rt := Q } (start N_paper vs) H := by
  obtain ⟨p, q, ws, ls, ans, rfl, sh, g, hw, hl, an, hasz, nd, hin, cc, uc, ky, ku, kc⟩ := h
  refine ⟨_, rfl, _, rfl, p, q, ws, ls, ans, rfl, sh, g, hw, hl, an, hasz, nd, cc, fun nc r H1 s1 nr tr => ?_, kc⟩
  obtain ⟨ha, hb, hc, t0, t1, t2, t3⟩ := tr
  refine ⟨r, _, rfl, sqT t0, rfl, _, _, rfl, _, _, rfl, _, [], rfl, rfl, ?_⟩
  show t_paper_left K E { nx := fun _ H' => Q .non H', rt := Q } [some (.ref p), some (.ref q), some (.ref ha), some (.ref hb), some (.ref hc), none, none, none, none] H1
  refine ⟨_, rfl, _, .inr (.inl ⟨_, sqT t3, rfl⟩), ?_⟩
  cases el : (ws.filter fun w => !hasB ls ans w && !lacB ls ans w) with
  | cons v rest =>
    rw [el] at t3
    refine iteT ?_
    have h0 : atI ((v :: rest).map V.int) 0 = some (.int v) := by
      unfold atI ixN
      rw [List.length_map, List.length_cons, if_pos (by decide), if_pos (by omega)]
      rfl
    refine ⟨_, rfl, ixT t3 h0 ⟨(by show (1 : Nat) ≤ 1000; decide), fun a na => ?_⟩⟩
    refine ⟨a, _, .int v, rfl, uc.oex, uc.ve, updS, fun d nd hd => ⟨rfl, d, _, updS, updN hd updS, ?_, ?_⟩⟩
    · rw [upd_ne hd] at nd
      exact nd
    · rw [upd_ne hd] at nd
      have ndH : H d = none := s1.free nd
      refine ku nc v rest el d _ (fun b o e => ?_) ndH updS
      have e1 := s1 _ _ e
      have b1 : b ≠ d := ne_of_none e1 nd
      have b2 : b ≠ a := ne_of_none e1 na
      rw [upd_ne b1, del_ne b2, upd_ne b2, upd_ne b1, upd_ne b2]
      exact e1
  | nil =>
    refine iteF ?_
    have all : ∀ w ∈ ws, hasB ls ans w = true ∨ lacB ls ans w = true := fun w hw => by
      have := List.filter_eq_nil_iff.mp el w hw
      cases e1 : hasB ls ans w with
      | true => exact .inl rfl
      | false =>
        cases e2 : lacB ls ans w with
        | true => exact .inr rfl
        | false => rw [e1, e2] at this; exact absurd rfl this
    have k := ky nc all
    have ndw := rising_nodup g.inc
    have sh1 : ShapeAt H1 p ws ls := sh.mono fun b xs e => s1 _ _ e
    have an1 : AnsAt H1 q ans := an.mono fun b xs e => s1 _ _ e
    refine ⟨_, rfl, _, rfl, p, q, ws, ls, ans, rfl, sh1, g, hl, an1, hasz, nd, fun A ka d H2 s2 nA hA dA stA domA eA => ?_⟩
    refine ⟨_, rfl, _, rfl, p, q, ws, ls, ans, rfl, sh1.mono fun b xs e => s2 _ _ e, g, hl, an1.mono fun b xs e => s2 _ _ e, hasz, nd, fun B kb d' H3 s3 nB hB dB stB domB eB => ?_⟩
    subst eA eB
    have s13 := s2.trans s3
    have hA3 := s3 _ _ hA
    show t_paper_held K E { nx := fun _ H' => Q .non H', rt := Q } [some (.ref p), some (.ref q), some (.ref ha), some (.ref hb), some (.ref hc), some (.ref A), some (.ref B), none, none] H3
    have upS : ∀ x u, dUp ls ans x = some (some u) → (dUp ls ans u).isSome = true ∧ (ws.filter fun z => decide (u < z)).length < (ws.filter fun z => decide (x < z)).length := fun x u e => by
      obtain ⟨h1, h2⟩ := stA.st x u e
      obtain ⟨m1, m2, m3⟩ := g.mem _ h1
      exact ⟨h2, muU_lt m1 m3⟩
    have dnS : ∀ x u, dDn ls ans x = some (some u) → (dDn ls ans u).isSome = true ∧ (ws.filter fun z => decide (z < u)).length < (ws.filter fun z => decide (z < x)).length := fun x u e => by
      obtain ⟨h1, h2⟩ := stB.st x u e
      obtain ⟨m1, m2, m3⟩ := g.mem _ h1
      exact ⟨h2, muD_lt m2 m3⟩
    have fl : ∀ f : Int → Bool, (ws.filter f).length ≤ 1000 := fun f => Nat.le_trans (List.length_filter_le _ _) hw
    -- pairs of those held
    refine ⟨_, rfl, ha, rfl, ⟨_, sqT (s13 _ _ t1)⟩, fun P nP => ?_⟩
    refine dc_any (walk_tup (xs := (ws.filter (hasB ls ans)).map V.int)) (fun i H' => Same H3 H' ∧ ∃ kvs, PrI H' P true ls ans ((ws.filter (hasB ls ans)).take i) kvs) ⟨samNew nP, [], updS, Nat.le_refl _, List.nodup_nil, (fun w hw => by rw [List.take_zero] at hw; cases hw), fun w _ => rfl⟩ (fun i H' _ q => sqT (q.1 _ _ (s13 _ _ t1))) ?_ ?_
    · rintro i x H4 H5 hi ⟨s4, kvs, pr⟩ ⟨rfl, hx⟩
      obtain ⟨w, rfl, ew⟩ := int_at hx
      have hwh := (List.mem_filter.mp (List.mem_of_getElem? ew)).2
      refine ⟨rfl, _, rfl, ?_⟩
      refine ⟨_, rfl, _, rfl, A, w, ka, dUp ls ans, fun x => (ws.filter fun z => decide (x < z)).length, rfl, s4 _ _ hA3, dA, by rw [domA]; exact hwh, upS, fl _, fun W wk H6 s6 nW hW fol hlen => ?_⟩
      refine ⟨W, _, rfl, sqL hW, fun R nR => ?_⟩
      rw [← List.map_reverse]
      refine ⟨R, _, rfl, .inl ⟨sqL updS, fun t nt => ⟨by show (2 : Nat) ≤ sizeLine; decide, fun T nT => ?_⟩⟩⟩
      have s7 : Same H5 (upd (upd (upd H6 R (.lst ((wk.reverse).map V.int))) t (.tup ((wk.reverse).map V.int))) T (.tup [.str (word true), .ref t])) := ((s6.trans (samNew nR)).trans (samNew nt)).trans (samNew nT)
      refine ⟨kvs, .inl w, rfl, s7 _ _ pr.at_, ?_, Same.updF (s4.trans s7) nP, putK kvs (.inl w) (.ref T), ?_⟩
      · have := pr.len
        rw [List.length_take] at this
        exact Nat.lt_of_le_of_lt (show kvs.length ≤ 1000 by have := fl (hasB ls ans); omega) (by decide)
      · rw [take_snoc ew]
        have hl2 := fl fun z => decide (w < z)
        have hlen : wk.length ≤ (ws.filter fun z => decide (w < z)).length + 1 := hlen
        exact pr.snoc s7 (take_new (ndw.sublist List.filter_sublist) ew) updS (samNew nT _ _ updS) (.inl ⟨rfl, hwh, by rw [List.reverse_reverse]; exact fol⟩) (by rw [List.length_reverse]; omega)
    rintro H4 ⟨s4, kvs, pr⟩
    rw [List.length_map, List.take_length] at pr
    show t_paper_lacks K E { nx := fun _ H' => Q .non H', rt := Q } [some (.ref p), some (.ref q), some (.ref ha), some (.ref hb), some (.ref hc), some (.ref A), some (.ref B), some (.ref P), none] H4
    have s14 := s13.trans s4
    -- pairs of those lacking
    refine ⟨_, rfl, .inr (.inr (.inl ⟨rfl, .inl ⟨_, pr.at_⟩⟩)), _, rfl, hb, rfl, ⟨_, sqT (s14 _ _ t2)⟩, fun P2 nP2 => ?_⟩
    refine dc_any (walk_tup (xs := (ws.filter (lacB ls ans)).map V.int)) (fun i H' => Same H4 H' ∧ ∃ kvs, PrI H' P2 false ls ans ((ws.filter (lacB ls ans)).take i) kvs) ⟨samNew nP2, [], updS, Nat.le_refl _, List.nodup_nil, (fun w hw => by rw [List.take_zero] at hw; cases hw), fun w _ => rfl⟩ (fun i H' _ q => sqT (q.1 _ _ (s14 _ _ t2))) ?_ ?_
    · rintro i x H5 H6 hi ⟨s5, kvs2, pr2⟩ ⟨rfl, hx⟩
      obtain ⟨w, rfl, ew⟩ := int_at hx
      have hwh := (List.mem_filter.mp (List.mem_of_getElem? ew)).2
      refine ⟨rfl, _, rfl, ?_⟩
      refine ⟨_, rfl, _, rfl, B, w, kb, dDn ls ans, fun x => (ws.filter fun z => decide (z < x)).length, rfl, s5 _ _ (s4 _ _ hB), dB, by rw [domB]; exact hwh, dnS, fl _, fun W wk H7 s7 nW hW fol hlen => ?_⟩
      refine ⟨W, _, rfl, .inl ⟨sqL hW, fun t nt => ⟨by show (2 : Nat) ≤ sizeLine; decide, fun T nT => ?_⟩⟩⟩
      have s8 : Same H6 (upd (upd H7 t (.tup (wk.map V.int))) T (.tup [.str (word false), .ref t])) := (s7.trans (samNew nt)).trans (samNew nT)
      refine ⟨kvs2, .inl w, rfl, s8 _ _ pr2.at_, ?_, Same.updF (s5.trans s8) nP2, putK kvs2 (.inl w) (.ref T), ?_⟩
      · have := pr2.len
        rw [List.length_take] at this
        exact Nat.lt_of_le_of_lt (show kvs2.length ≤ 1000 by have := fl (lacB ls ans); omega) (by decide)
      · rw [take_snoc ew]
        have hl2 := fl fun z => decide (z < w)
        have hlen : wk.length ≤ (ws.filter fun z => decide (z < w)).length + 1 := hlen
        exact pr2.snoc s8 (take_new (ndw.sublist List.filter_sublist) ew) updS (samNew nT _ _ updS) (.inr ⟨rfl, hwh, fol⟩) (by show wk.length ≤ 1001; omega)
    rintro H5 ⟨s5, kvs2, pr2⟩
    rw [List.length_map, List.take_length] at pr2
    have hP5 := s5 _ _ pr.at_
    have nPP : P ≠ P2 := ne_of_none pr.at_ nP2
    refine ⟨P, P2, kvs, kvs2, rfl, rfl, nPP, hP5, pr2.at_, ?_, ?_⟩
    · have h1 := pr.len
      have h2 := pr2.len
      have h3 := fl (hasB ls ans)
      have h4 := fl (lacB ls ans)
      exact Nat.le_trans (show _ ≤ 2000 by omega) (by decide)
    have nPH : H1 P = none := s13.free nP
    have s6 : ∀ b o, H1 b = some o → upd H5 P (.dK (mergeK kvs kvs2)) b = some o := fun b o e => updN (ne_of_none e nPH) (s5 _ _ (s14 _ _ e))
    have tp6 : ∀ b xs, H5 b = some (.tup xs) → upd H5 P (.dK (mergeK kvs kvs2)) b = some (.tup xs) := fun b xs e => updN (ne_of e hP5 (by intro z; cases z)) e
    have hM : upd H5 P (.dK (mergeK kvs kvs2)) P = some (.dK (mergeK kvs kvs2)) := updS
    have rowsM : ∀ w ∈ ws, ∃ (a : Addr) (e : Bool × List Int), valV (mergeK kvs kvs2) (.inl w) = some (.ref a) ∧ RowAt (upd H5 P (.dK (mergeK kvs kvs2))) a e ∧ RowIs ls ans w e ∧ e.2.length ≤ 1001 := fun w hww => by
      rw [val_mergeK _ _ pr2.nd]
      cases e2 : lacB ls ans w with
      | true =>
        obtain ⟨a, e, h1, _, h3, h4, h5⟩ := pr2.row w (List.mem_filter.mpr ⟨hww, e2⟩)
        rw [h1]
        exact ⟨a, e, rfl, h3.mono tp6, h4, h5⟩
      | false =>
        have h0 := pr2.no w (fun z => by rw [(List.mem_filter.mp z).2] at e2; cases e2)
        rw [h0]
        have hh : hasB ls ans w = true := (all w hww).resolve_right (by rw [e2]; exact Bool.false_ne_true)
        obtain ⟨a, e, h1, _, h3, h4, h5⟩ := pr.row w (List.mem_filter.mpr ⟨hww, hh⟩)
        exact ⟨a, e, h1, (h3.mono fun b xs z => s5 _ _ z).mono tp6, h4, h5⟩
    generalize upd H5 P (.dK (mergeK kvs kvs2)) = H6 at s6 tp6 hM rowsM
    show t_paper_end K E { nx := fun _ H' => Q .non H', rt := Q } [some (.ref p), some (.ref q), some (.ref ha), some (.ref hb), some (.ref hc), some (.ref A), some (.ref B), some (.ref P), none] H6
    obtain ⟨a0, r0, rs, hp, ha0, hr0, lk⟩ := sh1
    refine ⟨_, rfl, ixT (s6 _ _ hp) rfl ⟨a0, rfl, ⟨_, sqT (s6 _ _ ha0)⟩, fun L nL => ?_⟩⟩
    refine lc_it (walk_tup (xs := ws.map V.int)) (fun i H' => Same H6 H' ∧ ∃ (pa : List Addr) (rows : List (Bool × List Int)), H' L = some (.lst (pa.map V.ref)) ∧ pa.length = i ∧ rows.length = i ∧ (∀ (j : Nat) (a : Addr) (e : Bool × List Int), pa[j]? = some a → rows[j]? = some e → RowAt H6 a e) ∧ (∀ (j : Nat) (w : Int) (e : Bool × List Int), ws[j]? = some w → rows[j]? = some e → RowIs ls ans w e) ∧ ∀ e ∈ rows, e.2.length ≤ 1001) ⟨samNew nL, [], [], updS, rfl, rfl, (fun j a e h => by cases h), (fun j w e _ h => by cases h), fun e h => by cases h⟩ (fun i H' _ q => sqT (q.1 _ _ (s6 _ _ ha0))) ?_ ?_
    · rintro i y H7 H8 hi ⟨s7, pa, rows, hL, hpl, hrl, hra, hri, hfw⟩ ⟨rfl, hy⟩
      obtain ⟨w, rfl, ew⟩ := int_at hy
      obtain ⟨a, e, h1, h2, h3, h4⟩ := rowsM w (List.mem_of_getElem? ew)
      refine ⟨rfl, _, rfl, _, rfl, P, .ref a, rfl, .inl ⟨_, .inl w, .inl (s7 _ _ hM), rfl, h1.symm⟩, _, hL, ?_, Same.updF s7 nL, pa ++ [a], rows ++ [e], ?_, by rw [List.length_append, hpl]; rfl, by rw [List.length_append, hrl]; rfl, fun j b x g1 g2 => ?_, fun j z x g1 g2 => ?_, fun x hx => ?_⟩
      · rw [List.length_map] at hi ⊢
        exact Nat.lt_of_le_of_lt (show pa.length ≤ 1000 by omega) (by decide)
      · rw [updS, List.map_append]
        rfl
      · rcases snoc_get g1 with ⟨hj, g1⟩ | ⟨hj, rfl⟩
        · rcases snoc_get g2 with ⟨_, g2⟩ | ⟨hj2, _⟩
          · exact hra j b x g1 g2
          · omega
        · rcases snoc_get g2 with ⟨hj2, _⟩ | ⟨_, rfl⟩
          · omega
          · exact h2
      · rcases snoc_get g2 with ⟨hj, g2⟩ | ⟨hj, rfl⟩
        · exact hri j z x g1 g2
        · rw [show j = i by omega, ew] at g1
          cases Option.some.inj g1
          exact h3
      · rcases List.mem_append.mp hx with hx | hx
        · exact hfw x hx
        · rw [List.mem_singleton.mp hx]
          exact h4
    · rintro H7 ⟨s7, pa, rows, hL, hpl, hrl, hra, hri, hfw⟩
      rw [List.length_map] at hpl hrl
      refine ⟨L, _, rfl, .inl ⟨sqL hL, fun r' nr' => ?_⟩⟩
      have s8 := s7.trans (samNew (o := .tup (pa.map V.ref)) nr')
      exact k r' pa rows _ (fun b o e => s8 _ _ (s6 _ _ (s1 _ _ e))) ⟨updS, by omega, fun j a e g1 g2 => (hra j a e g1 g2).mono fun b xs z => s8 _ _ z⟩ ⟨by omega, hri, hfw, stA, stB⟩
end
end Fw

set_option Elab.async false
set_option linter.all false
set_option maxRecDepth 100000
set_option maxHeartbeats 4000000
namespace Fw
open PySem L2 RZ RT
def tTryOnly (K : PySem.W.Frag) (c : Value) (tb : WX → TS) (ts : Addr → Value → Option Addr → TS) : TS := fun D σ H => tb (wOnly K c ts (fun _ _ _ _ => False) D) D σ H
/-- what a row shows -/
structure GoodRow (ls : List (Int × Int)) (ans : List (Int × Bool)) (w : Int) (e : Bool × List Int) : Prop where
  ne : 0 < e.2.length
  lk : ∀ (i : Nat) (x y : Int), e.2[i]? = some x → e.2[i + 1]? = some y → (x, y) ∈ ls
  up : e.1 = true → (∃ s, e.2[0]? = some s ∧ (s, true) ∈ ans) ∧ e.2[e.2.length - 1]? = some w
  dn : e.1 = false → e.2[0]? = some w ∧ ∃ s, e.2[e.2.length - 1]? = some s ∧ (s, false) ∈ ans
theorem Fol.pos {d : Int → Option (Option Int)} {v : Int} {wk : List Int} (h : Fol d v wk) : 0 < wk.length := (List.getElem?_eq_some_iff.mp h.1).1
theorem Fol.last {d : Int → Option (Option Int)} {v : Int} {wk : List Int} (h : Fol d v wk) : ∃ s, wk[wk.length - 1]? = some s ∧ d s = some none := by
  have hp := h.pos
  have e := List.getElem?_eq_getElem (l := wk) (i := wk.length - 1) (by omega)
  refine ⟨_, e, ?_⟩
  rw [h.2 _ _ e, List.getElem?_eq_none_iff.mpr (by omega)]
theorem rev_at {l : List Int} {i : Nat} (h : i < l.length) : l.reverse[i]? = l[l.length - 1 - i]? := List.getElem?_reverse h
theorem RowIs.good {ws : List Int} {ls : List (Int × Int)} {ans : List (Int × Bool)} {rows : List (Bool × List Int)} (p : PapIs ws ls ans rows) {w : Int} {e : Bool × List Int} (h : RowIs ls ans w e) : GoodRow ls ans w e := by
  rcases h with ⟨h1, _, f⟩ | ⟨h1, _, f⟩
  · have hp := f.pos
    rw [List.length_reverse] at hp
    have at_ : ∀ {i : Nat} {x : Int}, e.2[i]? = some x → e.2.reverse[e.2.length - 1 - i]? = some x := fun {i x} q => by
      have hi := (List.getElem?_eq_some_iff.mp q).1
      rw [rev_at (by omega), show e.2.length - 1 - (e.2.length - 1 - i) = i by omega]
      exact q
    refine ⟨hp, fun i x y hx hy => ?_, fun _ => ⟨?_, ?_⟩, fun z => by rw [h1] at z; cases z⟩
    · have hi := (List.getElem?_eq_some_iff.mp hy).1
      have a := at_ hx
      have b := at_ hy
      have c := f.2 _ _ b
      rw [show e.2.length - 1 - (i + 1) + 1 = e.2.length - 1 - i by omega, a] at c
      exact (p.su.st y x c).1
    · obtain ⟨s, h2, h3⟩ := f.last
      rw [List.length_reverse, rev_at (by omega), show e.2.length - 1 - (e.2.length - 1) = 0 by omega] at h2
      exact ⟨s, h2, (p.su.y s).mp h3⟩
    · have := f.1
      rw [rev_at hp, Nat.sub_zero] at this
      exact this
  · refine ⟨f.pos, fun i x y hx hy => ?_, (fun z => by rw [h1] at z; cases z), fun _ => ⟨f.1, ?_⟩⟩
    · have c := f.2 _ _ hx
      rw [hy] at c
      exact (p.sd.st x y c).1
    · obtain ⟨s, h2, h3⟩ := f.last
      exact ⟨s, h2, (p.sd.y s).mp h3⟩
/-! ### the links as a dict's keys -/
def lkKey (l : Int × Int) : List Key := [.inl l.1, .inl l.2]
def LinkD (kvs : List (List Key × V)) (ls : List (Int × Int)) : Prop := ∀ l : Int × Int, (valV kvs (lkKey l)).isSome = ls.contains l
def sp_is_walk_down (_ : PySem.W.Frag) : Sp := fun vs H Q _ => ∃ (t D : Addr) (wk : List Int) (kvs : List (List Key × V)) (ls : List (Int × Int)), vs = [.ref t, .ref D] ∧ H t = some (.tup (wk.map V.int)) ∧ H D = some (.dT kvs) ∧ LinkD kvs ls ∧ 0 < wk.length ∧ wk.length ≤ 2000 ∧ (∀ (i : Nat) (x y : Int), wk[i]? = some x → wk[i + 1]? = some y → (x, y) ∈ ls) ∧ ∀ H', Same H H' → Q (.bl true) H'
def sp_shows (_ : PySem.W.Frag) : Sp := fun vs H Q _ => ∃ (a T D : Addr) (w : Int) (e : Bool × List Int) (tk : List (Key × V)) (kvs : List (List Key × V)) (ls : List (Int × Int)) (ans : List (Int × Bool)), vs = [.ref a, .int w, .ref T, .ref D] ∧ RowAt H a e ∧ GoodRow ls ans w e ∧ e.2.length ≤ 1001 ∧ H T = some (.dK tk) ∧ (∀ (v : Int) (b : Bool), (v, b) ∈ ans → valV tk (.inl v) = some (.bl b)) ∧ H D = some (.dT kvs) ∧ LinkD kvs ls ∧ ∀ H', Same H H' → Q (.bl true) H'
def sp_are_contrary (K : PySem.W.Frag) : Sp := fun vs H Q _ => ∃ (p q : Addr) (ws : List Int) (ls : List (Int × Int)) (ans : List (Int × Bool)), vs = [.ref p, .ref q] ∧ ShapeAt H p ws ls ∧ Good ws ls ∧ ws.length ≤ 1000 ∧ ls.length ≤ 10000 ∧ AnsAt H q ans ∧ ans.length ≤ 1000 ∧ (ans.map (·.1)).Nodup ∧ ContraryC K ∧ NotContrary ls ans ∧ ∀ H', Same H H' → Q (.bl false) H'
abbrev N_is_walk_down : List Str := ["thing", "links", "upper", "lower"]
def t_is_walk_down_end (K : PySem.W.Frag) : TS := (tRet (tCB (rAll K) (tCons (tLc (iZipA K (tCons (tVar 0) (tCons (tSl (rSlA K) (tVar 0) (tPart (tC (.int 1))) tNoPart) tNil))) (gTup K 2 (gCons (gName 2) (gCons (gName 3) gNil))) tYes (tDIn (tTup (tCons (tVar 2) (tCons (tVar 3) tNil))) (tVar 1)) [2, 3]) tNil)))
def t_is_walk_down (K : PySem.W.Frag) : TS := (tSeq (tIfS (tOr (tNot (tB (tCall (sp_is_intsD K) [] E0 (tCons (tVar 0) tNil)))) (tTest (tOp rEq (tCB (fLen K) (tCons (tVar 0) tNil)) (tC (.int 0))))) (tRet (tC (.bl false))) tNext)
    (t_is_walk_down_end K))
abbrev N_shows : List Str := ["thing", "version", "told", "links", "first", "last"]
def t_shows_held (K : PySem.W.Frag) : TS := (tSeq (tIfS (tTest (tOp rEq (tOp (rIx K) (tVar 0) (tC (.int 0))) (tC (.str "held")))) (tRet (tAndV (tOp rIsB (tDGet1 (tVar 2) (tVar 4)) (tC (.bl true))) (tOp rEq (tVar 5) (tVar 1)))) tNext)
    (tRet (tAndV (tOp rEq (tOp (rIx K) (tVar 0) (tC (.int 0))) (tC (.str "lacks"))) (tAndV (tOp rEq (tVar 4) (tVar 1)) (tOp rIsB (tDGet1 (tVar 2) (tVar 5)) (tC (.bl false)))))))
def t_shows (K : PySem.W.Frag) : TS := (tSeq (tIfS (tOr (tNot (tB (tCall (sp_is_pair K) [] E0 (tCons (tVar 0) tNil)))) (tNot (tB (tCall (sp_is_walk_down K) [] E0 (tCons (tOp (rIx K) (tVar 0) (tC (.int 1))) (tCons (tVar 3) tNil)))))) (tRet (tC (.bl false))) tNext)
    (tSeq (tPar 4 5 (tCons (tOp (rIx K) (tOp (rIx K) (tVar 0) (tC (.int 1))) (tC (.int 0))) (tCons (tOp (rIx K) (tOp (rIx K) (tVar 0) (tC (.int 1))) (tUn rNegI (tC (.int 1)))) tNil)))
    (t_shows_held K)))
abbrev N_are_contrary : List Str := ["shape", "answers"]
def t_are_contrary (K : PySem.W.Frag) : TS := (tSeq (tTryOnly K (.ref (He.ga K "Contrary")) (fun W => (tDrop (tCallS (sp_settledX K) (WE W) (tCons (tVar 0) (tCons (tVar 1) tNil))))) (fun _ _ _ => (tRet (tC (.bl true)))))
    (tRet (tC (.bl false))))
section
variable {K : PySem.W.Frag} {vs : List V} {H : Hp} {Q : VK} {E : XK}
theorem len_is_walk_down (h : sp_is_walk_down K vs H Q E) : vs.length = 2 := by obtain ⟨_, _, _, _, _, rfl, _⟩ := h; rfl
theorem len_shows (h : sp_shows K vs H Q E) : vs.length = 4 := by obtain ⟨_, _, _, _, _, _, _, _, _, rfl, _⟩ := h; rfl
theorem len_are_contrary (h : sp_are_contrary K vs H Q E) : vs.length = 2 := by obtain ⟨_, _, _, _, _, rfl, _⟩ := h; rfl
theorem pure_are_contrary (h : sp_are_contrary K vs H Q E) : t_are_contrary K { nx := fun _ H' => Q .non H', rt := Q } (start N_are_contrary vs) H := by
  obtain ⟨p, q, ws, ls, ans, rfl, sh, g, hw, hl, an, hasz, nd, cc, nc, k⟩ := h
  exact ⟨_, rfl, _, rfl, p, q, ws, ls, ans, rfl, sh, g, hw, hl, an, hasz, nd, cc, fun _ r H1 s1 _ _ => k H1 s1, fun u m hu hm d => absurd d (nc u m hu hm)⟩
theorem at_ints {t : Addr} {ns : List Int} (h : H t = some (.tup (ns.map V.int))) (hz : ns.length ≤ 100000) : At H (.ref t) (.tup (ns.map Dt.int)) := .tup h (by rw [List.length_map]; exact hz) (by rw [List.length_map, List.length_map]) fun i x d h1 h2 => by
  rw [List.getElem?_map] at h1 h2
  cases e : ns[i]? with
  | none => rw [e] at h1; cases h1
  | some n =>
    rw [e] at h1 h2
    cases Option.some.inj h1
    cases Option.some.inj h2
    exact .int n
theorem pure_is_walk_down (h : sp_is_walk_down K vs H Q E) : t_is_walk_down K { nx := fun _ H' => Q .non H', rt := Q } (start N_is_walk_down vs) H := by
  obtain ⟨t, D, wk, kvs, ls, rfl, ht, hD, ld, hp, hz, hlk, k⟩ := h
  refine ⟨_, rfl, _, _, rfl, at_ints ht (by omega), fun H1 s1 => ?_⟩
  have ei : isIntsD (.tup (wk.map Dt.int)) = true := by
    show (wk.map Dt.int).all isIntD = true
    rw [List.all_eq_true]
    intro x hx
    obtain ⟨n, _, rfl⟩ := List.mem_map.mp hx
    rfl
  rw [ei]
  refine ⟨_, rfl, iteF ?_⟩
  have ht1 := s1 _ _ ht
  refine ⟨_, rfl, lenT ht1 ⟨rfl, _, rfl, ite2 (fun z => ?_) fun _ => ?_⟩⟩
  · have := V.int.inj (of_decide_eq_true z)
    rw [List.length_map] at this
    omega
  show t_is_walk_down_end K { nx := fun _ H' => Q .non H', rt := Q } [some (.ref t), some (.ref D), none, none] H1
  have main : ∀ (q : Addr) (H2 : Hp), Same H1 H2 → H2 q = some (.tup ((wk.map V.int).drop 1)) → ∀ L, H2 L = none → ∀ (R : Hp → Prop), (∀ H3, Same H2 H3 → H3 L = some (.lst ((List.replicate (wk.length - 1) true).map V.bl)) → R H3) → ∃ W : Nat → Nat → Hp → Prop, (∃ m, W 0 m (upd H2 L (.lst []))) ∧ ∀ i m H, W i m H → ((ItzT K t q).stop i H ∧ R H) ∨ ((ItzT K t q).go i H ∧ ∃ Nx : Hp → Prop, (∀ H', Nx H' → ∃ m', m' < m ∧ W (i + 1) m' H') ∧ ∀ x H', (ItzT K t q).yld i H x H' → gTup K 2 (gCons (gName 2) (gCons (gName 3) gNil)) x (wipe [some (.ref t), some (.ref D), none, none] [2, 3]) H' fun σ2 H2 => wipe σ2 [2, 3] = wipe [some (.ref t), some (.ref D), none, none] [2, 3] ∧ tYes σ2 H2 fun b H3 => if b = true then tDIn (tTup (tCons (tVar 2) (tCons (tVar 3) tNil))) (tVar 1) σ2 H3 fun y H4 => ∃ acc, H4 L = some (.lst acc) ∧ acc.length < sizeLine ∧ Nx (upd H4 L (.lst (acc ++ [y]))) else Nx H3) := by
    intro q H2 s2 hq L nL R kR
    refine lc_zipT (K := K) (a := t) (b := q) (xs := wk.map V.int) (ys := (wk.map V.int).drop 1) (wk.length - 1) (by rw [List.length_drop, List.length_map]; omega) (fun i H3 => Same H2 H3 ∧ H3 L = some (.lst ((List.replicate i true).map V.bl))) ⟨samNew nL, updS⟩ (fun i H3 s3 => ⟨sqT (s3.1 _ _ (s2 _ _ ht1)), sqT (s3.1 _ _ hq)⟩) (fun i x y T H3 hx hy s3 nT => ?_) (fun H3 s3 => kR H3 s3.1 s3.2)
    rw [List.getElem?_drop, Nat.add_comm] at hy
    obtain ⟨u, rfl, eu⟩ := int_at hx
    obtain ⟨l, rfl, el⟩ := int_at hy
    have sT : Same H2 (upd H3 T (.tup [.int u, .int l])) := s3.1.trans (samNew nT)
    have hL : upd H3 T (.tup [.int u, .int l]) L = some (.lst ((List.replicate i true).map V.bl)) := samNew nT _ _ s3.2
    refine ⟨T, [.int u, .int l], rfl, sqT updS, rfl, .int u, [.int l], rfl, .int l, [], rfl, rfl, rfl, ?_⟩
    generalize upd H3 T (.tup [.int u, .int l]) = H4 at sT hL
    refine ⟨_, rfl, _, rfl, by show (2 : Nat) ≤ sizeLine; decide, fun T2 n2 => ⟨_, rfl, D, _, rfl, .inr ⟨kvs, lkKey (u, l), T2, .inl (samNew n2 _ _ (sT _ _ (s2 _ _ (s1 _ _ hD)))), rfl, updS, rfl⟩, (List.replicate i true).map V.bl, samNew n2 _ _ hL, ?_, Same.updF (sT.trans (samNew n2)) nL, ?_⟩⟩
    · have hi := (List.getElem?_eq_some_iff.mp eu).1
      rw [List.length_map, List.length_replicate]
      exact Nat.lt_of_le_of_lt (show i ≤ 2000 by omega) (by decide)
    · rw [updS, ld, List.contains_iff_mem.mpr (hlk i u l eu el), List.replicate_succ', List.map_append]
      rfl
  have fin : ∀ {L : Addr} {H3 : Hp}, Same H1 H3 → H3 L = some (.lst ((List.replicate (wk.length - 1) true).map V.bl)) → tNil [some (.ref t), some (.ref D), none, none] H3 fun ys H2 => rAll K (.ref L :: ys) H2 Q := fun {L H3} s3 hL => by
    refine ⟨L, _, rfl, sqL hL, ?_⟩
    have : (List.replicate (wk.length - 1) true).all id = true := by
      rw [List.all_eq_true]
      intro x hx
      rw [List.eq_of_mem_replicate hx]
      rfl
    rw [this]
    exact k H3 (s1.trans s3)
  refine ⟨_, rfl, _, rfl, _, rfl, t, _, rfl, sqT ht1, fun e => ?_, fun e q nq => ?_⟩
  · exfalso
    have e1 := e.1
    rw [show HT.sIx (wk.map V.int).length 0 (some 1) = min 1 (wk.map V.int).length from HT.sIx_nat _ 0 1, List.length_map] at e1
    omega
  · have s2 : Same H1 (upd H1 q (.tup (cutV (wk.map V.int) (some 1) none))) := samNew nq
    refine ⟨t, q, _, _, rfl, .inr ⟨sqT (s2 _ _ ht1), sqT updS, fun L nL => main q _ s2 (by rw [updS, cut1]) L nL _ fun H3 s3 hL => fin (s2.trans s3) hL⟩⟩
theorem pure_shows (h : sp_shows K vs H Q E) : t_shows K { nx := fun _ H' => Q .non H', rt := Q } (start N_shows vs) H := by
  obtain ⟨a, T, D, w, e, tk, kvs, ls, ans, rfl, ⟨t, h1, h2⟩, gr, hz, hT, told, hD, ld, k⟩ := h
  have atp : At H (.ref a) (.tup [.str (word e.1), .tup (e.2.map Dt.int)]) := .tup h1 (by show (2 : Nat) ≤ 100000; decide) rfl fun i x d h3 h4 => by
    match i, h3, h4 with
    | 0, h3, h4 => cases Option.some.inj h3; cases Option.some.inj h4; exact .str _
    | 1, h3, h4 => cases Option.some.inj h3; cases Option.some.inj h4; exact at_ints h2 (by omega)
  refine ⟨_, rfl, _, _, rfl, atp, _, rfl, iteF ?_⟩
  refine ⟨_, rfl, ixT h1 rfl ⟨_, rfl, t, D, e.2, kvs, ls, rfl, h2, hD, ld, gr.ne, by omega, gr.lk, fun H1 s1 => ⟨_, rfl, iteF ?_⟩⟩⟩
  have a1 := s1 _ _ h1
  have a2 := s1 _ _ h2
  obtain ⟨f, ef⟩ : ∃ f, e.2[0]? = some f := ⟨_, List.getElem?_eq_getElem gr.ne⟩
  obtain ⟨l, el⟩ : ∃ l, e.2[e.2.length - 1]? = some l := ⟨_, List.getElem?_eq_getElem (by have := gr.ne; omega)⟩
  have if0 : atI (e.2.map V.int) 0 = some (.int f) := by
    unfold atI ixN
    rw [List.length_map, if_pos (by decide), if_pos (by have := gr.ne; omega)]
    show (e.2.map V.int)[0]? = _
    rw [List.getElem?_map, ef]
    rfl
  have ifl : atI (e.2.map V.int) (-1) = some (.int l) := by
    unfold atI ixN
    rw [List.length_map, if_neg (by decide), if_pos (by have := gr.ne; omega)]
    show (e.2.map V.int)[(-1 + ((e.2.length : Nat) : Int)).toNat]? = _
    rw [show (-1 + ((e.2.length : Nat) : Int)).toNat = e.2.length - 1 by have := gr.ne; omega, List.getElem?_map, el]
    rfl
  refine ⟨_, rfl, ixT a1 rfl (ixT a2 if0 ⟨_, rfl, ixT a1 rfl ⟨_, rfl, ixT a2 ifl ⟨_, _, rfl, ?_⟩⟩⟩)⟩
  show t_shows_held K { nx := fun _ H' => Q .non H', rt := Q } [some (.ref a), some (.int w), some (.ref T), some (.ref D), some (.int f), some (.int l)] H1
  have hT1 := s1 _ _ hT
  cases eb : e.1 with
  | true =>
    obtain ⟨⟨s, g1, g2⟩, g3⟩ := gr.up eb
    rw [ef] at g1
    cases Option.some.inj g1
    rw [el] at g3
    cases Option.some.inj g3
    rw [eb] at a1
    refine ⟨_, rfl, ixT a1 rfl ⟨rfl, _, rfl, ite2 (fun _ => ?_) fun z => absurd (decide_eq_true rfl) z⟩⟩
    refine ⟨_, rfl, T, rfl, .inl ⟨_, .inl hT1⟩, _, rfl, some (.bl true), .inl ⟨_, .inl f, .inl hT1, rfl, (told f true g2).symm⟩, true, true, rfl, rfl, _, rfl, iteT ?_⟩
    refine ⟨_, rfl, _, rfl, rfl, ?_⟩
    rw [decide_eq_true rfl]
    exact k H1 s1
  | false =>
    obtain ⟨g3, s, g1, g2⟩ := gr.dn eb
    rw [el] at g1
    cases Option.some.inj g1
    rw [ef] at g3
    cases Option.some.inj g3
    rw [eb] at a1
    refine ⟨_, rfl, ixT a1 rfl ⟨rfl, _, rfl, ite2 (fun z => absurd (of_decide_eq_true z) (by decide +kernel)) fun _ => ?_⟩⟩
    refine ⟨_, rfl, ixT a1 rfl ⟨rfl, _, rfl, ite2 (fun _ => ?_) fun z => absurd (decide_eq_true rfl) z⟩⟩
    refine ⟨_, rfl, _, rfl, rfl, _, rfl, ite2 (fun _ => ?_) fun z => absurd (decide_eq_true rfl) z⟩
    refine ⟨_, rfl, T, rfl, .inl ⟨_, .inl hT1⟩, _, rfl, some (.bl false), .inl ⟨_, .inl l, .inl hT1, rfl, (told l false g2).symm⟩, false, false, rfl, rfl, k H1 s1⟩
end
end Fw

set_option Elab.async false
set_option linter.all false
set_option maxRecDepth 100000
set_option maxHeartbeats 4000000
namespace Fw
open PySem PySem.Spec PyProof.Rows L2
/-- what a store into the dict that grows asks and gives -/
def PutR (X : Cx) (Put : Addr → V → V → Hp → (Hp → Prop) → Prop) : Prop := ∀ (Y : Cx), Y.A = X.A → ∀ {pp : List (Addr × Obj)} {σ : L2.St} {H : Hp} {s : Shared} {E : Value → Shared → Prop} {D : Addr} {y z : V} {u r : Value} {Q : Unit → Shared → Prop} {Nx : Hp → Prop}, Inv Y pp σ H s → RelV y u → RelV z r → Put D y z H Nx → (∀ s' H', Inv Y pp σ H' s' → Nx H' → Q () s') → wpAny (model Y.prog Y.w) Y.A (dictSet D u r) Q E s
section
variable {X : Cx}
/-- {k: v for target in iter if ..}: D the new dict, o0 what is known of it when it is empty -/
def tDcG (o0 : HO) (Put : Addr → V → V → Hp → (Hp → Prop) → Prop) (wi : TI) (g : TG) (tt : TT) (tk tv : TE) (vs : List Nat) : TE := fun σ H Q => wi σ H fun J H1 => ∀ D, H1 D = none → ∃ W : Nat → Nat → Hp → Prop, (∃ m, W 0 m (upd H1 D o0)) ∧ ∀ i m H, W i m H →
  (J.stop i H ∧ Q (.ref D) H) ∨ (J.go i H ∧ ∃ Nx : Hp → Prop, (∀ H', Nx H' → ∃ m', m' < m ∧ W (i + 1) m' H') ∧ ∀ x H', J.yld i H x H' → g x (wipe σ vs) H' fun σ2 H2 => wipe σ2 vs = wipe σ vs ∧ tt σ2 H2 fun b H3 =>
    if b = true then tk σ2 H3 fun y H4 => tv σ2 H4 fun z H5 => Put D y z H5 Nx else Nx H3)
theorem dcg_core {pp : List (Addr × Obj)} {s : Shared} {σ : L2.St} {H : Hp} {Q : VK} {kex vex tgt itr : Expr} {tsts : List Expr} {sc : Scope} {own : List (Str × Nat)} {pos posb : Pos} {wi : TI} {g : TG} {tt : TT} {tk tv : TE} {o0 : HO} {Put : Addr → V → V → Hp → (Hp → Prop) → Prop} {use : Option (Value → Sem Unit)} {Qf : Value → Shared → Prop}
    (calm : X.calm = true) (ndp : X.N.Nodup) (I : Inv X pp σ H s) (wlk : PI X tgt itr wi) (blk : BlkOk X.N X.env.scope sc own)
    (pgs : ∀ (s : Shared) (H : Hp) (C : Addr) (cl : List (Str × Addr)) (fp : List Addr), PG (X.blk s H sc (compEnvC sc cl C X.env) fp) tgt g) (pts : ∀ (s : Shared) (H : Hp) (C : Addr) (cl : List (Str × Addr)) (fp : List Addr), PTs (X.blk s H sc (compEnvC sc cl C X.env) fp) tsts tt)
    (pks : ∀ (s : Shared) (H : Hp) (C : Addr) (cl : List (Str × Addr)) (fp : List Addr), PE (X.blk s H sc (compEnvC sc cl C X.env) fp) kex tk)
    (pvs : ∀ (s : Shared) (H : Hp) (C : Addr) (cl : List (Str × Addr)) (fp : List Addr), PE (X.blk s H sc (compEnvC sc cl C X.env) fp) vex tv) (fold : ∀ x, foldedSetIterable itr X.env x = pure x)
    (h : tDcG o0 Put wi g tt tk tv (own.map (·.2)) σ H Q)
    (emp : ∀ {Hx : Hp} (hx : Heap), sysModules < hx.objs.size → ObjOk X.prog X.w Hx (hx.push { cls := .type "dict", data := .dict #[] }) hx.objs.size o0)
    (put : PutR X Put) (out : ∀ D C s' m H', Inv X pp σ H' s' → Q (.ref D) H' → s'.heap.Ns C m → FpOk X pp H' C → compPost (model X.prog X.w) X.A X.xe use Qf (.ref D) C (.ok .next) s') :
    wpAny (model X.prog X.w) X.A (comprehension (.DictComp kex vex [⟨tgt, itr, tsts, 0⟩] sc pos) sc X.env posb newDict false (eval itr X.env) use) Qf X.xe s := by
  have fre : ∀ y ∈ sc.names, y.2 = .free → ∃ c, X.env.cells.lookup y.1 = some c := fun y hy e => by
    rcases blk.free y hy e with k | k
    · exact I.ok.has _ (.inl k)
    · exact I.ok.has _ (.inr k)
  refine wpAny_comprehension_free (use := use) rfl fold (closure_ok fre) blk.kind (fun y hy e => by rw [blk.uniq y hy, e])
    (thn (wlk.run pp s σ H _ I h) fun xv z1 hx => thn hx fun itv z2h h2 => ?_)
  obtain ⟨it, fp, tn, J, H2, e, Ia, T, sa2, fa2, q⟩ := h2
  subst e
  refine wpAny_newObj_type (newEnv_comp ?_)
  generalize hD : z2h.heap.objs.size = D
  have nD : H2 D = none := Ia.hok.fresh (Nat.le_of_eq hD)
  obtain ⟨W, ⟨mz, wz⟩, trn⟩ := q D nD
  -- the new list
  generalize eqs : ({ z2h with heap := z2h.heap.push { cls := .type "dict", data := .dict #[] } } : Shared) = z3
  have Ib : Inv X pp σ (upd H2 D o0) z3 := by
    rw [← eqs]
    refine Ia.laid (t' := z2h.toks) (fun b o e => Heap.get?_push_of_some _ e) (Nat.le_of_eq hD) ?_
    rw [← hD]
    exact emp z2h.heap Ia.big
  have eh3 : z3.heap = z2h.heap.push { cls := .type "dict", data := .dict #[] } := by rw [← eqs]
  have few : ∀ b ∈ fp, b < z2h.heap.objs.size := fun b hb => by
    obtain ⟨o, e, _⟩ := T.obj _ _ sa2 b hb
    exact Heap.lt_size e
  have fa3 : ∀ b ∈ fp, FpOk X pp (upd H2 D o0) b ∧ b < z3.heap.objs.size := fun b hb => by
    have hlt := few b hb
    refine ⟨⟨?_, (fa2 b hb).2⟩, by rw [eh3, Heap.size_push]; exact Nat.lt_succ_of_lt hlt⟩
    rw [upd_ne (by rw [← hD]; exact Nat.ne_of_lt hlt)]
    exact (fa2 b hb).1
  have sa3 : tn 0 z3.heap := T.keep _ _ _ sa2 fun b _ o e => by rw [eh3]; exact Heap.get?_push_of_some _ e
  have Ic := block_start Ib blk ndp fa3
  have pg := pgs z3 (upd H2 D o0) z3.heap.objs.size (cellsFrom (z3.heap.objs.size + 1) sc.names (cloFrom X.env.cells sc.names [])) fp
  have pt := pts z3 (upd H2 D o0) z3.heap.objs.size (cellsFrom (z3.heap.objs.size + 1) sc.names (cloFrom X.env.cells sc.names [])) fp
  have pk := pks z3 (upd H2 D o0) z3.heap.objs.size (cellsFrom (z3.heap.objs.size + 1) sc.names (cloFrom X.env.cells sc.names [])) fp
  have pe := pvs z3 (upd H2 D o0) z3.heap.objs.size (cellsFrom (z3.heap.objs.size + 1) sc.names (cloFrom X.env.cells sc.names [])) fp
  show codeAny _ _ (.compStart (.DictComp kex vex [⟨tgt, itr, tsts, 0⟩] sc pos) 0 (.ref it) (.ref D) (compEnvC sc (cellsFrom (z3.heap.objs.size + 1) sc.names (cloFrom X.env.cells sc.names [])) z3.heap.objs.size X.env)) (compPost (model X.prog X.w) X.A X.xe use Qf (.ref D) z3.heap.objs.size) { z3 with heap := pushCells (z3.heap.push { cls := .type "dict", data := .dict #[] }) sc.names }
  have nof : ∀ b ∈ fp, (upd H2 D o0) b = none := fun b hb => (fa3 b hb).1.1
  generalize eqe : compEnvC sc (cellsFrom (z3.heap.objs.size + 1) sc.names (cloFrom X.env.cells sc.names [])) z3.heap.objs.size X.env = ce at Ic pg pt pk pe ⊢
  have elc : ce.locals = z3.heap.objs.size := by subst eqe; rfl
  generalize eqH : upd H2 D o0 = H3 at Ib Ic pg pt pk pe wz nof fa3
  generalize eqz : ({ z3 with heap := pushCells (z3.heap.push { cls := .type "dict", data := .dict #[] }) sc.names } : Shared) = z4 at Ic ⊢
  have sa4 : tn 0 z4.heap := T.keep _ _ _ sa3 fun b _ o e => by rw [← eqz]; exact pushCells_keeps _ _ _ _ (Heap.get?_push_of_some _ e)
  have sfp : ∀ {σ' : L2.St} {H' : Hp} {s' : Shared}, Inv (X.blk z3 H3 sc ce fp) [] σ' H' s' → (∀ b ∈ fp, H' b = none) → ∀ b ∈ fp, FpOk (X.blk z3 H3 sc ce fp) [] H' b := fun {σ' H' s'} I' hnn b hb =>
    ⟨hnn b hb, (I'.ok.exf b hb).1, I'.ok.exfs b hb, .inl hb, fun x c e => (I'.ok.exf b hb).2 x c e, fun p hp => absurd (show p ∈ ([] : List (Addr × Obj)) ++ [] from hp) (by simp)⟩
  have lp : codeAny (model X.prog X.w) X.A (.compLoop (.DictComp kex vex [⟨tgt, itr, tsts, 0⟩] sc pos) 0 (.ref it) (.ref D) ce) (compPost (model X.prog X.w) X.A X.xe use Qf (.ref D) z3.heap.objs.size) z4 := by
    refine compLoop_anyD (fun n s' => ∃ i H', Inv (X.blk z3 H3 sc ce fp) [] (wipe σ (own.map (·.2))) H' s' ∧ tn i s'.heap ∧ (∀ b ∈ fp, H' b = none) ∧ W i n H') ?_ mz ⟨0, H3, Ic, sa4, nof, wz⟩
    rintro n z5 ⟨i, H5, Id, sa5, n5, w5⟩
    rcases trn i n H5 w5 with ⟨sto, qd⟩ | ⟨gos, Nx, hnx, stp1⟩
    · have tdn := T.done (X.blk z3 H3 sc ce fp) rfl rfl rfl calm i [] z5 _ H5 (fun _ _ => False) Id (sfp Id n5) sa5 sto
      refine thnF tdn fun r z6 ⟨hr, Ie⟩ => ?_
      subst hr
      -- back in the def's context
      have If : Inv X pp σ H5 z6 := Ib.call' (ch := fp) Ie.os Ie.base Ie.hok Ie.bare fun b hb => ⟨(fa3 b hb).1.2.2.2.1, (fa3 b hb).1.2.1, (fa3 b hb).1.2.2.2.2.1, (fa3 b hb).1.2.2.2.2.2⟩
      have nC : H5 z3.heap.objs.size = none := by
        have z : H5 ce.locals = none := Ie.free
        rw [elc] at z
        exact z
      obtain ⟨m, hnn, _⟩ := Ie.loc
      have hnn : z6.heap.Ns ce.locals m := hnn
      rw [elc] at hnn
      exact out D z3.heap.objs.size z6 m H5 If qd hnn (Ib.fpOk (Nat.le_refl _) nC)
    · have tit := T.item (X.blk z3 H3 sc ce fp) rfl rfl rfl calm i [] z5 _ H5 (fun _ _ => False) Id (sfp Id n5) sa5 gos
      refine thnF tit fun r z6 ⟨u, hr, h6⟩ => ?_
      subst hr
      refine thnF h6 fun _ z7 ⟨x, H7, If, r7, y7, sa7, n7⟩ => ?_
      have Ifp := If.pinned (sfp If n7) (T.obj _ _ sa7)
      refine thnF (pg.run _ z7 _ H7 x u _ Ifp r7 (stp1 x H7 y7)) fun _ z8 ⟨σ8, H8, Ig, ew8, q8⟩ => ?_
      refine thnF (pt.run _ z8 σ8 H8 _ Ig q8) fun b z9 ⟨H9, Ih, q9⟩ => ?_
      -- the turn's end
      have endt : ∀ {s' : Shared} {H' : Hp}, Inv (X.blk z3 H3 sc ce fp) ([] ++ pinsAt fp z7.heap) σ8 H' s' → Nx H' → ∃ m, m < n ∧ ∃ i H', Inv (X.blk z3 H3 sc ce fp) [] (wipe σ (own.map (·.2))) H' s' ∧ tn i s'.heap ∧ (∀ b ∈ fp, H' b = none) ∧ W i m H' := fun {s' H'} I' nx => by
        obtain ⟨m', hm, w'⟩ := hnx H' nx
        have pinz : ∀ b ∈ fp, ∀ o, z7.heap.get? b = some o → s'.heap.get? b = some o ∧ H' b = none := fun b hb o e =>
          let z := I'.pin (b, o) (List.mem_append_right _ (List.mem_append_right _ (mem_pinsAt hb e)))
          ⟨z.1, z.2.1⟩
        have hlw : (wipe σ (own.map (·.2))).length = σ8.length := by rw [← ew8, wipe_length]
        refine ⟨m', hm, i + 1, H', (I'.unpinned (pins := [])).weak hlw (fun j v e => ?_), T.keep _ _ _ sa7 fun b hb o e => (pinz b hb o e).1, fun b hb => ?_, w'⟩
        · rw [← ew8] at e
          exact (wipe_some e).1
        · obtain ⟨o, e, _⟩ := T.obj _ _ sa7 b hb
          exact (pinz b hb o e).2
      cases b with
      | false =>
        simp only [Bool.false_eq_true, if_false] at q9 ⊢
        exact endt Ih q9
      | true =>
        simp only [if_true] at q9 ⊢
        refine thnF (pk.run _ z9 σ8 H9 _ Ih q9) fun z z10 ⟨yk, H10, Ii, r10, q10⟩ => ?_
        refine thnF (pe.run _ z10 σ8 H10 _ Ii q10) fun z2 z11 ⟨yv, H11, Ij, r11, q11⟩ => ?_
        exact put (X.blk z3 H3 sc ce fp) rfl Ij r10 r11 q11 fun z12 H12 Ik nx => endt Ik nx
  exact codeAny_compStart_dict lp (T.self X.A 0 _ _ _ sa4 lp)
/-- as a value -/
theorem pe_dcG {kex vex tgt itr : Expr} {tsts : List Expr} {sc : Scope} {own : List (Str × Nat)} {pos : Pos} {wi : TI} {g : TG} {tt : TT} {tk tv : TE} {o0 : HO} {Put : Addr → V → V → Hp → (Hp → Prop) → Prop} (calm : X.calm = true) (ndp : X.N.Nodup) (wlk : PI X tgt itr wi) (blk : BlkOk X.N X.env.scope sc own)
    (pgs : ∀ (z : Shared) (Hz : Hp) (cz : Addr) (clz : List (Str × Addr)) (fz : List Addr), PG (X.blk z Hz sc (compEnvC sc clz cz X.env) fz) tgt g) (pts : ∀ (z : Shared) (Hz : Hp) (cz : Addr) (clz : List (Str × Addr)) (fz : List Addr), PTs (X.blk z Hz sc (compEnvC sc clz cz X.env) fz) tsts tt)
    (pks : ∀ (z : Shared) (Hz : Hp) (cz : Addr) (clz : List (Str × Addr)) (fz : List Addr), PE (X.blk z Hz sc (compEnvC sc clz cz X.env) fz) kex tk) (pvs : ∀ (z : Shared) (Hz : Hp) (cz : Addr) (clz : List (Str × Addr)) (fz : List Addr), PE (X.blk z Hz sc (compEnvC sc clz cz X.env) fz) vex tv)
    (emp : ∀ {Hx : Hp} (hx : Heap), sysModules < hx.objs.size → ObjOk X.prog X.w Hx (hx.push { cls := .type "dict", data := .dict #[] }) hx.objs.size o0) (put : PutR X Put) (fold : ∀ z, foldedSetIterable itr X.env z = pure z := by intro _; rfl) :
    PE X (.DictComp kex vex [⟨tgt, itr, tsts, 0⟩] sc pos) (tDcG o0 Put wi g tt tk tv (own.map (·.2))) := by
  refine ⟨fun pp s σ H Q I h => ?_⟩
  rw [arm_eval_DictComp]
  refine dcg_core calm ndp I wlk blk pgs pts pks pvs fold h emp put fun D C z m Hz Iz q hn f => ⟨m, hn, fun hx sb => ?_⟩
  obtain ⟨f0, f1, _, f3, f4, f5⟩ := f
  exact ⟨.ref D, Hz, Iz.turned (t' := z.toks) (fun b o hb e => (sb.2 b hb).trans e) f0 f1 f3 f4 f5, rfl, q⟩
theorem ps_setDcG {i : Nat} {nm : Str} {npos : Pos} {kx vx tgt it : Expr} {tests : List Expr} {sc : Scope} {own : List (Str × Nat)} {dpos apos : Pos} {wi : TI} {g : TG} {tt : TT} {tk tv : TE} {o0 : HO} {Put : Addr → V → V → Hp → (Hp → Prop) → Prop} (calm : X.calm = true) (nd : X.N.Nodup) (at_ : X.N[i]? = some nm) (loc : X.env.scope.names.lookup nm = some .local)
    (sw : swapsWith (.DictComp kx vx [⟨tgt, it, tests, 0⟩] sc dpos) (some (.Name nm npos)) apos.line X.env = pure true) (walk : PI X tgt it wi) (blk : BlkOk X.N X.env.scope sc own)
    (pg : ∀ (z : Shared) (Hz : Hp) (cz : Addr) (clz : List (Str × Addr)) (fz : List Addr), PG (X.blk z Hz sc (compEnvC sc clz cz X.env) fz) tgt g)
    (pt : ∀ (z : Shared) (Hz : Hp) (cz : Addr) (clz : List (Str × Addr)) (fz : List Addr), PTs (X.blk z Hz sc (compEnvC sc clz cz X.env) fz) tests tt)
    (pk : ∀ (z : Shared) (Hz : Hp) (cz : Addr) (clz : List (Str × Addr)) (fz : List Addr), PE (X.blk z Hz sc (compEnvC sc clz cz X.env) fz) kx tk)
    (pv : ∀ (z : Shared) (Hz : Hp) (cz : Addr) (clz : List (Str × Addr)) (fz : List Addr), PE (X.blk z Hz sc (compEnvC sc clz cz X.env) fz) vx tv)
    (emp : ∀ {Hx : Hp} (hx : Heap), sysModules < hx.objs.size → ObjOk X.prog X.w Hx (hx.push { cls := .type "dict", data := .dict #[] }) hx.objs.size o0) (put : PutR X Put)
    (fold : ∀ z, foldedSetIterable it X.env z = pure z := by intro _; rfl) :
    L2.PS X (.Assign [.Name nm npos] (.DictComp kx vx [⟨tgt, it, tests, 0⟩] sc dpos) apos) (tAsg (tDcG o0 Put wi g tt tk tv (own.map (·.2))) (gName i)) := by
  refine ⟨fun pins s σ H D inv rd => ?_⟩
  rw [exec_Assign_Name_used _ _ _ _ sw]
  refine wpAny_bind (wpAny_standAt ?_)
  refine wpAny_bind ?_
  show wpAny _ X.A (do let _ ← comprehension (.DictComp kx vx [⟨tgt, it, tests, 0⟩] sc dpos) sc X.env (firstIterPos [⟨tgt, it, tests, 0⟩] dpos) newDict false (eval it X.env) (some (assign (.Name nm npos) X.env))) _ _ s
  have rd2 : tDcG o0 Put wi g tt tk tv (own.map (·.2)) σ H (fun x Hx => gName i x σ Hx D.nx) := rd
  refine wpAny_bind (thn (dcg_core (Qf := fun _ s1 => SP X pins D .next s1) calm nd inv walk blk pg pt pk pv fold rd2 emp put fun F C s1 m H1 inv1 q ns fp => ?_) fun _ s1 z => wpAny_pure (wpAny_pure z))
  show wpAny _ _ (assign (.Name nm npos) X.env (.ref F)) _ _ _
  obtain ⟨p0, p1, _, p3, p4, p5⟩ := fp
  refine wpAny_assign_Name (store_ok2 (v := V.ref F) inv1 nd at_ (.inl loc) rfl (fun s2 inv2 ⟨b, same, hb⟩ => ?_) (.inr loc))
  have ne : C ≠ b := hb.elim (fun z => by rw [z]; exact p1) fun z e => p4 nm b z e.symm
  refine ⟨m, ns.sameBut same ne, fun h3 same3 => ⟨_, H1, ?_, q⟩⟩
  exact inv2.turned (t' := s2.toks) (fun x o nx e => (same3.2 x nx).trans e) p0 p1 p3 p4 p5
/-- keys that are tuples of ints and texts -/
def putT : Addr → V → V → Hp → (Hp → Prop) → Prop := fun D y z H Nx => ∃ (kvs : List (List Key × V)) (k : List Key) (b : Addr), y = .ref b ∧ H b = some (.tup (k.map kV)) ∧ H D = some (.dT kvs) ∧ kvs.length < sizeLine ∧ Nx (upd H D (.dT (putK kvs k z)))
theorem putT_ok (hu : X.A.units < cLine) : PutR X putT := by
  intro Y eA pp σ H s E D y z u r Q Nx I ry rz h out
  obtain ⟨kvs, k, b, rfl, hb, hD, hz, nx⟩ := h
  cases (show u = Value.ref b from ry)
  obtain ⟨zz, hd, xs, rel, dd⟩ := dt_of I.hok hD
  have hzx : xs.length ≤ sizeLine := by rw [← Paired.length rel]; exact zz
  have hl : (putK kvs k z).length ≤ sizeLine := by have := length_putK kvs k z; omega
  refine wpAny_dictSet_heap (hsz := hzx) (by rw [eA]; exact hu) (key_of I.hok hb) dd fun h' dd' hs => out _ _ ?_ nx
  obtain ⟨q, es, ep, hq, h2, h3, h4, _, h5⟩ := dd'
  refine d_write I (by rw [hD]; exact True.intro) hs ⟨q, hq⟩ ⟨hl, hd, _, (rel.put k hb rz).keeps fun c ys ec => ?_, q, es, ep, hq, h2, h3, h4, h5⟩
  rw [upd_ne (ne_of ec hD (fun z => nomatch z))]
  exact ec
end
end Fw

set_option Elab.async false
set_option linter.all false
set_option maxRecDepth 100000
set_option maxHeartbeats 4000000
namespace Fw
open PySem L2 RZ RT
theorem lkKey_inj {a b : Int × Int} (h : lkKey a = lkKey b) : a = b := by
  unfold lkKey at h
  injection h with h1 h2
  injection h2 with h2 _
  exact Prod.ext (Sum.inl.inj h1) (Sum.inl.inj h2)
theorem LinkD.put {kvs : List (List Key × V)} {S : List (Int × Int)} (h : LinkD kvs S) (l : Int × Int) : LinkD (putK kvs (lkKey l) (.bl true)) (S ++ [l]) := fun m => by
  rw [valV_put]
  by_cases e : m = l
  · subst e
    rw [if_pos rfl, List.contains_iff_mem.mpr (List.mem_append_right _ (List.mem_singleton.mpr rfl))]
    rfl
  · rw [if_neg (fun z => e (lkKey_inj z)), h m, Bool.eq_iff_iff, List.contains_iff_mem, List.contains_iff_mem, List.mem_append, List.mem_singleton]
    exact ⟨.inl, fun z => z.elim id fun q => absurd q e⟩
theorem tDcG_links {K : PySem.W.Frag} {H : Hp} {Q : VK} {σ : L2.St} {s : Nat} {te : TE} {r : Addr} {rs : List Addr} {ls : List (Int × Int)} (hte : ∀ R : VK, R (.ref r) H → te σ H R) (hs : s < σ.length) (hr : H r = some (.tup (rs.map V.ref))) (lk : LkAt H rs ls) (hz : ls.length ≤ 10000)
    (hd : ∀ D kvs H', H D = none → Same H H' → H' D = some (.dT kvs) → LinkD kvs ls → Q (.ref D) H') : tDcG (.dT []) putT (iTup K te) (gName s) tYes (tVar s) (tC (.bl true)) [s] σ H Q := by
  refine hte _ ⟨r, rfl, ⟨_, sqT hr⟩, fun D nD => ?_⟩
  have hrl : (rs.map V.ref).length = ls.length := by rw [List.length_map, lk.1]
  refine ⟨fun i m H' => i ≤ ls.length ∧ m + i = ls.length ∧ Same H H' ∧ ∃ kvs, H' D = some (.dT kvs) ∧ kvs.length ≤ i ∧ LinkD kvs (ls.take i), ⟨ls.length, Nat.zero_le _, rfl, samNew nD, [], updS, Nat.le_refl _, fun m => rfl⟩, ?_⟩
  rintro i m H' ⟨hi, hm, s1, kvs, hD, hk, ld⟩
  have wk := walk_tup (K := K) (a := r) (xs := rs.map V.ref)
  have sq : SqT K H' r (rs.map V.ref) := sqT (s1 _ _ hr)
  by_cases hlt : i < ls.length
  · refine .inr ⟨wk.goes i H' (by rw [hrl]; exact hlt) sq, fun H2 => Same H H2 ∧ ∃ kvs, H2 D = some (.dT kvs) ∧ kvs.length ≤ i + 1 ∧ LinkD kvs (ls.take (i + 1)), fun H2 ⟨a, b⟩ => ⟨m - 1, by omega, by omega, by omega, a, b⟩, fun x H2 y => ?_⟩
    obtain ⟨rfl, hx⟩ := wk.yields i H' x H2 (by rw [hrl]; exact hlt) sq y
    obtain ⟨a, rfl, ea⟩ := ref_at hx
    have el : ls[i]? = some ls[i] := List.getElem?_eq_getElem hlt
    have ha := s1 _ _ (lk.2 i a _ ea el)
    generalize ls[i] = l at el ha
    refine ⟨?_, ?_⟩
    · show (((σ.set s none).set s _).set s none) = σ.set s none
      rw [List.set_set, List.set_set]
    refine ⟨_, List.getElem?_set_self (show s < (σ.set s none).length by rw [List.length_set]; exact hs), kvs, lkKey l, a, rfl, ha, hD, Nat.lt_of_le_of_lt (show kvs.length ≤ 10000 by omega) (by decide), Same.updF s1 nD, _, updS, Nat.le_trans (length_putK _ _ _) (by omega), ?_⟩
    rw [take_snoc el]
    exact ld.put l
  · have e : i = ls.length := by omega
    subst e
    rw [List.take_length] at ld
    refine .inl ⟨?_, hd D kvs H' nD s1 hD ld⟩
    have := wk.stops H' sq
    rw [hrl] at this
    exact this
def sp_right_paper (K : PySem.W.Frag) : Sp := fun vs H Q _ => ∃ (p q r : Addr) (ws : List Int) (ls : List (Int × Int)) (ans : List (Int × Bool)) (pa : List Addr) (rows : List (Bool × List Int)), vs = [.ref p, .ref q, .ref r] ∧ ShapeAt H p ws ls ∧ Good ws ls ∧ ws.length ≤ 1000 ∧ ls.length ≤ 10000 ∧ AnsAt H q ans ∧ ans.length ≤ 1000 ∧ (ans.map (·.1)).Nodup ∧ ContraryC K ∧ NotContrary ls ans ∧ PapAt H r pa rows ∧ PapIs ws ls ans rows ∧ ∀ H', Same H H' → Q (.bl true) H'
abbrev N_right_paper : List Str := ["shape", "answers", "thing", "told", "version", "truth", "links", "link", "pair"]
def t_right_paper_end (K : PySem.W.Frag) : TS := (tRet (tCB (rAll K) (tCons (tLc (iZipA K (tCons (tVar 2) (tCons (tOp (rIx K) (tVar 0) (tC (.int 0))) tNil))) (gTup K 2 (gCons (gName 8) (gCons (gName 4) gNil))) tYes (tCall (sp_shows K) [] E0 (tCons (tVar 8) (tCons (tVar 4) (tCons (tVar 3) (tCons (tVar 6) tNil))))) [8, 4]) tNil)))
def t_right_paper_links (K : PySem.W.Frag) : TS := (tSeq (tAsg (tDcG (.dT []) putT (iTup K (tOp (rIx K) (tVar 0) (tC (.int 1)))) (gName 7) tYes (tVar 7) (tC (.bl true)) [7]) (gName 6))
    (t_right_paper_end K))
def t_right_paper_told (K : PySem.W.Frag) : TS := (tSeq (tAsg (tDc (iTup K (tVar 1)) (gTup K 2 (gCons (gName 4) (gCons (gName 5) gNil))) tYes (tVar 4) (tVar 5) [4, 5]) (gName 3))
    (t_right_paper_links K))
def t_right_paper (K : PySem.W.Frag) : TS := (tSeq (tIfS (tOr (tNot (tB (tCB (rIsi K) (tCons (tVar 2) (tCons (tC (.ty "tuple")) tNil))))) (tOr (tTest (tOp rNe (tCB (fLen K) (tCons (tVar 2) tNil)) (tCB (fLen K) (tCons (tOp (rIx K) (tVar 0) (tC (.int 0))) tNil)))) (tB (tCall (sp_are_contrary K) [] E0 (tCons (tVar 0) (tCons (tVar 1) tNil)))))) (tRet (tC (.bl false))) tNext)
    (t_right_paper_told K))
section
variable {K : PySem.W.Frag} {vs : List V} {H : Hp} {Q : VK} {E : XK}
theorem len_right_paper (h : sp_right_paper K vs H Q E) : vs.length = 3 := by obtain ⟨_, _, _, _, _, _, _, _, rfl, _⟩ := h; rfl
theorem PapAt.mono {H H' : Hp} {r : Addr} {pa : List Addr} {rows : List (Bool × List Int)} (h : PapAt H r pa rows) (s : Same H H') : PapAt H' r pa rows := ⟨s _ _ h.top, h.len, fun i a e h1 h2 => (h.row i a e h1 h2).mono fun b xs z => s _ _ z⟩
theorem isTupP {p : Addr} {xs : List V} {σ : L2.St} {Q : VK} (h : H p = some (.tup xs)) (q : Q (.bl true) H) : tCons (tC (.ty "tuple")) tNil σ H fun ys H2 => rIsi K (.ref p :: ys) H2 Q := isi (.base (.tup h)) rfl q
theorem pure_right_paper (h : sp_right_paper K vs H Q E) : t_right_paper K { nx := fun _ H' => Q .non H', rt := Q } (start N_right_paper vs) H := by
  obtain ⟨p, q, r, ws, ls, ans, pa, rows, rfl, sh, g, hw, hl, an, hasz, nd, cc, nc, pt, pis, k⟩ := h
  obtain ⟨a0, r0, rs, hp, ha0, hr0, lk⟩ := id sh
  have hpl : pa.length = ws.length := by rw [pt.len, pis.len]
  refine ⟨_, rfl, isTupP pt.top ⟨_, rfl, iteF ?_⟩⟩
  refine ⟨_, rfl, lenT pt.top ⟨_, rfl, ixT hp rfl (lenT ha0 ⟨rfl, _, rfl, ite2 (fun z => ?_) fun _ => ?_⟩)⟩⟩
  · rw [Bool.not_eq_true', decide_eq_false_iff_not] at z
    exact absurd (by rw [List.length_map, List.length_map, hpl]) z
  refine ⟨_, rfl, _, rfl, p, q, ws, ls, ans, rfl, sh, g, hw, hl, an, hasz, nd, cc, nc, fun H1 s1 => ⟨_, rfl, iteF ?_⟩⟩
  -- told
  show t_right_paper_told K { nx := fun _ H' => Q .non H', rt := Q } [some (.ref p), some (.ref q), some (.ref r), none, none, none, none, none, none] H1
  obtain ⟨as, hq, hal, has⟩ : AnsAt H1 q ans := an.mono fun b xs e => s1 _ _ e
  refine ⟨_, rfl, q, rfl, ⟨_, sqT hq⟩, fun L nL => ?_⟩
  refine dc_any (walk_tup (xs := as.map V.ref)) (fun i H2 => Same H1 H2 ∧ ∃ kvs : List (Key × V), H2 L = some (.dK kvs) ∧ kvs.length ≤ i ∧ ∀ (v : Int) (b : Bool), (v, b) ∈ ans.take i → valV kvs (.inl v) = some (.bl b)) ⟨samNew nL, [], updS, Nat.le_refl _, fun v b z => by rw [List.take_zero] at z; cases z⟩ (fun i H2 _ z => sqT (z.1 _ _ hq)) ?_ ?_
  · rintro i x H2 H3 hi ⟨s2, kvs, hL, hkl, hkv⟩ ⟨rfl, hx⟩
    obtain ⟨a, rfl, ea⟩ := ref_at hx
    have hi2 : i < ans.length := by rw [← hal]; exact (List.getElem?_eq_some_iff.mp ea).1
    have ee : ans[i]? = some ans[i] := List.getElem?_eq_getElem hi2
    have ndi : ∀ b, (ans[i].1, b) ∉ ans.take i := fun b hm => by
      obtain ⟨j, hj, e⟩ := List.getElem_of_mem hm
      rw [List.length_take] at hj
      rw [List.getElem_take] at e
      have q1 : (ans.map (·.1))[j]'(by rw [List.length_map]; omega) = (ans.map (·.1))[i]'(by rw [List.length_map]; omega) := by
        rw [List.getElem_map, List.getElem_map, e]
      have := (List.getElem_inj nd).mp q1
      omega
    generalize ans[i] = e at ee ndi
    obtain ⟨v, b⟩ := e
    have hb := s2 _ _ (has i a _ ea ee)
    refine ⟨a, [.int v, .bl b], rfl, sqT hb, rfl, _, [.bl b], rfl, _, [], rfl, rfl, rfl, ?_⟩
    refine ⟨_, rfl, _, rfl, kvs, .inl v, rfl, hL, Nat.lt_of_le_of_lt (show kvs.length ≤ 1000 by omega) (by decide), Same.updF s2 nL, _, updS, Nat.le_trans (length_putK _ _ _) (by omega), fun x c hx => ?_⟩
    rw [take_snoc ee] at hx
    rw [valV_put]
    rcases List.mem_append.mp hx with hx | hx
    · rw [if_neg (fun z => ndi c (by rw [← Sum.inl.inj z]; exact hx))]
      exact hkv x c hx
    · cases List.mem_singleton.mp hx
      rw [if_pos rfl]
  rintro H2 ⟨s2, tk, hL, hkl, hkv⟩
  rw [List.length_map, hal, List.take_length] at hkv
  show t_right_paper_links K { nx := fun _ H' => Q .non H', rt := Q } [some (.ref p), some (.ref q), some (.ref r), some (.ref L), none, none, none, none, none] H2
  have s12 := s1.trans s2
  dsimp only [t_right_paper_links, tSeq, tAsg]
  refine tDcG_links (K := K) (σ := [some (.ref p), some (.ref q), some (.ref r), some (.ref L), none, none, none, none, none]) (s := 7) (te := tOp (rIx K) (tVar 0) (tC (.int 1))) (r := r0) (fun R z => ⟨_, rfl, ixT (s12 _ _ hp) rfl z⟩) (by show (7 : Nat) < 9; decide) (s12 _ _ hr0) (lk.mono fun b xs e => s12 _ _ e) hl fun D kvs H3 nD s3 hD ld => ?_
  show t_right_paper_end K { nx := fun _ H' => Q .non H', rt := Q } [some (.ref p), some (.ref q), some (.ref r), some (.ref L), none, none, some (.ref D), none, none] H3
  have s13 := s12.trans s3
  have hL3 := s3 _ _ hL
  have pt3 := pt.mono s13
  refine ⟨_, rfl, _, rfl, ixT (s13 _ _ hp) rfl ⟨r, a0, _, _, rfl, .inr ⟨sqT pt3.top, sqT (s13 _ _ ha0), fun A nA => ?_⟩⟩⟩
  refine lc_zipT (K := K) (a := r) (b := a0) (xs := pa.map V.ref) (ys := ws.map V.int) ws.length (by rw [List.length_map, List.length_map]; omega) (fun i H4 => Same H3 H4 ∧ H4 A = some (.lst ((List.replicate i true).map V.bl))) ⟨samNew nA, updS⟩ (fun i H4 s4 => ⟨sqT (s4.1 _ _ pt3.top), sqT (s4.1 _ _ (s13 _ _ ha0))⟩) (fun i x y T H4 hx hy s4 nT => ?_) (fun H4 s4 => ?_)
  · obtain ⟨a, rfl, ea⟩ := ref_at hx
    obtain ⟨w, rfl, ew⟩ := int_at hy
    have hi : i < rows.length := by rw [← pt.len]; exact (List.getElem?_eq_some_iff.mp ea).1
    have er := List.getElem?_eq_getElem hi
    have em := List.getElem_mem hi
    generalize rows[i] = e at er em
    have sT : Same H3 (upd H4 T (.tup [.ref a, .int w])) := s4.1.trans (samNew nT)
    have hA : upd H4 T (.tup [.ref a, .int w]) A = some (.lst ((List.replicate i true).map V.bl)) := samNew nT _ _ s4.2
    refine ⟨T, [.ref a, .int w], rfl, sqT updS, rfl, .ref a, [.int w], rfl, .int w, [], rfl, rfl, rfl, ?_⟩
    generalize upd H4 T (.tup [.ref a, .int w]) = H5 at sT hA
    refine ⟨_, rfl, _, rfl, _, rfl, _, rfl, a, L, D, w, e, tk, kvs, ls, ans, rfl, (pt3.row i a e ea er).mono (fun b xs z => sT _ _ z), RowIs.good pis (pis.is i w e ew er), pis.few e em, sT _ _ hL3, hkv, sT _ _ hD, ld, fun H6 s6 => ⟨_, s6 _ _ hA, ?_, Same.updF (sT.trans s6) nA, ?_⟩⟩
    · have := (List.getElem?_eq_some_iff.mp ew).1
      rw [List.length_map, List.length_replicate]
      exact Nat.lt_of_le_of_lt (show i ≤ 1000 by omega) (by decide)
    · rw [updS, List.replicate_succ', List.map_append]
      rfl
  · refine ⟨A, _, rfl, sqL s4.2, ?_⟩
    have : (List.replicate ws.length true).all id = true := by
      rw [List.all_eq_true]
      intro x hx
      rw [List.eq_of_mem_replicate hx]
      rfl
    rw [this]
    exact k H4 (s13.trans s4.1)
end
end Fw

set_option Elab.async false
set_option linter.all false
set_option maxRecDepth 100000
set_option maxHeartbeats 4000000
namespace Fw
open PySem PySem.Spec PyProof.Rows L2
theorem units65 {k : Nat} {A : Around} (r : Room k A) : A.units + 65 < cLine := by have := r.un; omega
/-- x not in t, t a tuple of data of any depth -/
def rNotInT (K : PySem.W.Frag) : R2 := fun x t Hp Y => ∃ d ds, Dp K Hp t (.tuple ds) ∧ Dp K Hp x d ∧ SeqAt.shaped (.tuple ds) = true ∧ SeqAt.shaped d = true ∧ Y (.bl (!ds.any fun z => PyData.eqv z d)) Hp
theorem op_notInT {X : Cx} (room : X.A.units + 65 < cLine) : OpR X (compareOp .NotIn) (rNotInT X.K) := by
  intro pp sh st Hx x t vx vt Y inv relx relt ⟨d, ds, ht, hx, wt, wx, y⟩
  obtain ⟨_, readx⟩ := Dp.reads inv d x vx hx relx
  obtain ⟨_, readt⟩ := Dp.reads inv (.tuple ds) t vt ht relt
  exact SeqAt.notIn_tuple_reads readt readx (SeqAt.canLay_of_shaped wt) (SeqAt.canLay_of_shaped wx) (room_in_shaped wx room) ⟨.bl _, Hx, inv, rfl, y⟩
end Fw

set_option Elab.async false
set_option linter.all false
set_option maxRecDepth 100000
set_option maxHeartbeats 4000000
namespace Fw
open PySem L2 RZ RT
abbrev pI (l : Int × Int) : PyData := .tuple [.int l.1, .int l.2]
theorem pI_lay : ∀ ls : List (Int × Int), PyData.canLayAll0 (ls.map pI) = true
  | [] => rfl
  | e :: r => by
    show (PyData.canLay0 (pI e) && PyData.canLayAll0 (r.map pI)) = true
    rw [pI_lay r]
    rfl
theorem pI_depth : ∀ ls : List (Int × Int), PyData.depthAll (ls.map pI) ≤ 1
  | [] => Nat.zero_le _
  | e :: r => by
    show max (PyData.depth (pI e)) (PyData.depthAll (r.map pI)) ≤ 1
    have h1 : PyData.depth (pI e) = 1 := rfl
    have := pI_depth r
    omega
theorem pI_shapedT (ls : List (Int × Int)) : SeqAt.shaped (.tuple (ls.map pI)) = true := by
  show (PyData.canLayAll0 (ls.map pI) && decide (PyData.depthAll (ls.map pI) + 1 ≤ 64)) = true
  rw [pI_lay, Bool.true_and]
  have := pI_depth ls
  exact decide_eq_true (by omega)
theorem pI_self (l : Int × Int) : PyData.eqv (pI l) (pI l) = true := by
  show (PyData.eqv (.int l.1) (.int l.1) && (PyData.eqv (.int l.2) (.int l.2) && true)) = true
  simp [PyData.eqv]
theorem pI_any {ls : List (Int × Int)} {l : Int × Int} (h : l ∈ ls) : ((ls.map pI).any fun z => PyData.eqv z (pI l)) = true := by
  rw [List.any_map, List.any_eq_true]
  exact ⟨l, h, pI_self l⟩
theorem dp_links {K : PySem.W.Frag} {H : Hp} : ∀ (rs : List Addr) (ls : List (Int × Int)), rs.length = ls.length → (∀ (i : Nat) (a : Addr) (l : Int × Int), rs[i]? = some a → ls[i]? = some l → H a = some (.tup [.int l.1, .int l.2])) → DpAll K H (rs.map V.ref) (ls.map pI)
  | [], [], _, _ => .nil
  | [], _ :: _, h, _ => by cases h
  | _ :: _, [], h, _ => by cases h
  | a :: rs, e :: ls, h, pr => .cons (.tup (sqT (pr 0 a e rfl rfl)) (.cons (.int _) (.cons (.int _) .nil))) (dp_links rs ls (Nat.succ.inj h) fun i a e h1 h2 => pr (i + 1) a e h1 h2)
end Fw

set_option Elab.async false
set_option linter.all false
set_option maxRecDepth 100000
set_option maxHeartbeats 4000000
namespace Fw
open PySem L2 RZ RT
def sp_l_is_way (_ : PySem.W.Frag) : Sp := fun vs H Q _ => ∃ (p t : Addr) (ws : List Int) (ls : List (Int × Int)) (wk : List Int), vs = [.ref p, .ref t] ∧ ShapeAt H p ws ls ∧ H t = some (.tup (wk.map V.int)) ∧ 0 < wk.length ∧ wk.length ≤ 2000 ∧ (∀ x ∈ wk, x ∈ ws) ∧ (∀ (i : Nat) (x y : Int), wk[i]? = some x → wk[i + 1]? = some y → (x, y) ∈ ls) ∧ ∀ H', Same H H' → Q (.bl true) H'
abbrev N_l_is_way : List Str := ["_law_web", "_law_thing", "_law_one", "_law_k"]
def t_l_is_way_links (K : PySem.W.Frag) : TS := (tSeq (tFor (iRng2 (tCons (tC (.int 1)) (tCons (tCB (fLen K) (tCons (tVar 1) tNil)) tNil))) (gName 3) (tIfS (tTest (tOp (rNotInT K) (tTup (tCons (tOp (rIx K) (tVar 1) (tOp rSubI (tVar 3) (tC (.int 1)))) (tCons (tOp (rIx K) (tVar 1) (tVar 3)) tNil))) (tOp (rIx K) (tVar 0) (tC (.int 1))))) (tRet (tC (.bl false))) tNext))
    (tRet (tC (.bl true))))
def t_l_is_way (K : PySem.W.Frag) : TS := (tSeq (tIfS (tOr (tNot (tB (tCB (rIsi K) (tCons (tVar 1) (tCons (tC (.ty "tuple")) tNil))))) (tTest (tOp rEq (tCB (fLen K) (tCons (tVar 1) tNil)) (tC (.int 0))))) (tRet (tC (.bl false))) tNext)
    (tSeq (tFor (iTup K (tVar 1)) (gName 2) (tIfS (tOr (tNot (tB (tCall (sp_l_int K) [] E0 (tCons (tVar 2) tNil)))) (tTest (tOp (rIn K true) (tVar 2) (tOp (rIx K) (tVar 0) (tC (.int 0)))))) (tRet (tC (.bl false))) tNext))
    (t_l_is_way_links K)))
section
variable {K : PySem.W.Frag} {vs : List V} {H : Hp} {Q : VK} {E : XK}
theorem len_l_is_way (h : sp_l_is_way K vs H Q E) : vs.length = 2 := by obtain ⟨_, _, _, _, _, rfl, _⟩ := h; rfl
theorem at_of {ns : List Int} {i : Nat} {n : Int} (h : ns[i]? = some n) : atI (ns.map V.int) (i : Int) = some (.int n) := by
  obtain ⟨hi, e⟩ := List.getElem?_eq_some_iff.mp h
  unfold atI ixN
  rw [List.length_map, if_pos (by omega), if_pos (by omega)]
  show (ns.map V.int)[((i : Int)).toNat]? = _
  rw [Int.toNat_natCast, List.getElem?_map, h]
  rfl
theorem pure_l_is_way (h : sp_l_is_way K vs H Q E) : t_l_is_way K { nx := fun _ H' => Q .non H', rt := Q } (start N_l_is_way vs) H := by
  obtain ⟨p, t, ws, ls, wk, rfl, ⟨a0, r0, rs, hp, ha0, hr0, lk⟩, ht, hpos, hz, hin, hlk, k⟩ := h
  refine ⟨_, rfl, isTupP ht ⟨_, rfl, iteF ?_⟩⟩
  refine ⟨_, rfl, lenT ht ⟨rfl, _, rfl, ite2 (fun z => ?_) fun _ => ?_⟩⟩
  · have := V.int.inj (of_decide_eq_true z)
    rw [List.length_map] at this
    omega
  refine ⟨_, rfl, t, rfl, ⟨_, sqT ht⟩, ?_⟩
  refine for_tup (K := K) (a := t) (xs := wk.map V.int) (fun i σ H' => H' = H ∧ ∃ z2 : Option V, σ = [some (.ref p), some (.ref t), z2, none]) ⟨rfl, none, rfl⟩ (fun i σ H' _ ⟨e, _⟩ => by rw [e]; exact sqT ht) ?_ ?_
  · rintro i x σ H' hx ⟨rfl, z2, rfl⟩
    obtain ⟨w, rfl, ew⟩ := int_at hx
    refine ⟨_, rfl, w, rfl, _, rfl, iteF ?_⟩
    refine ⟨_, rfl, _, rfl, ixT hp rfl ⟨a0, _, rfl, .inr (sqT ha0), rfl, flat_ints _, _, rfl, ?_⟩⟩
    have ein : (if true = true then !inV (.int w) (ws.map V.int) else inV (.int w) (ws.map V.int)) = false := by rw [if_pos rfl, inV_ints, List.contains_iff_mem.mpr (hin w (List.mem_of_getElem? ew))]; rfl
    rw [ein]
    exact iteF ⟨rfl, _, rfl⟩
  · rintro σ H' ⟨rfl, z2, rfl⟩
    show t_l_is_way_links K { nx := fun _ H' => Q .non H', rt := Q } [some (.ref p), some (.ref t), z2, none] H'
    refine ⟨_, rfl, lenT ht ⟨1, _, rfl, ⟨by decide, by decide, by omega, by rw [List.length_map]; omega⟩, ?_⟩⟩
    refine for_range (lo := 1) (n := (((wk.map V.int).length : Int) - 1).toNat) (fun i σ H2 => Same H' H2 ∧ ∃ z3 : Option V, σ = [some (.ref p), some (.ref t), z2, z3]) ⟨.refl _, none, rfl⟩ ?_ ?_
    · rintro i σ H2 hi ⟨s2, z3, rfl⟩
      rw [List.length_map] at hi
      have h1 : wk[i]? = some wk[i] := List.getElem?_eq_getElem (by omega)
      have h2 : wk[i + 1]? = some wk[i + 1] := List.getElem?_eq_getElem (by omega)
      have a1 : atI (wk.map V.int) (1 + (i : Int) - 1) = some (.int wk[i]) := by rw [show (1 + (i : Int) - 1) = (i : Int) by omega]; exact at_of h1
      have a2 : atI (wk.map V.int) (1 + (i : Int)) = some (.int wk[i + 1]) := by rw [show (1 + (i : Int)) = ((i + 1 : Nat) : Int) by omega]; exact at_of h2
      have ht2 := s2 _ _ ht
      refine ⟨_, rfl, _, rfl, _, _, rfl, rfl, ixT ht2 a1 ⟨_, rfl, _, rfl, ixT ht2 a2 ⟨by show (2 : Nat) ≤ sizeLine; decide, fun T nT => ?_⟩⟩⟩
      have s3 : Same H' (upd H2 T (.tup [.int wk[i], .int wk[i + 1]])) := s2.trans (samNew nT)
      refine ⟨_, rfl, ixT (s3 _ _ hp) rfl ⟨pI (wk[i], wk[i + 1]), ls.map pI, .tup (sqT (s3 _ _ hr0)) (dp_links rs ls lk.1 fun j a l q1 q2 => s3 _ _ (lk.2 j a l q1 q2)), .tup (sqT updS) (.cons (.int _) (.cons (.int _) .nil)), pI_shapedT ls, rfl, _, rfl, ?_⟩⟩
      rw [pI_any (hlk i _ _ h1 h2)]
      exact iteF ⟨s3, _, rfl⟩
    · rintro σ H2 ⟨s2, z3, rfl⟩
      exact k H2 s2
end
end Fw

set_option Elab.async false
set_option linter.all false
set_option maxRecDepth 100000
set_option maxHeartbeats 4000000
namespace Fw
open PySem L2 RZ RT
def sp_l_is_paper (_ : PySem.W.Frag) : Sp := fun vs H Q _ => ∃ (p q r : Addr) (ws : List Int) (ls : List (Int × Int)) (ans : List (Int × Bool)) (pa : List Addr) (rows : List (Bool × List Int)), vs = [.ref p, .ref q, .ref r] ∧ ShapeAt H p ws ls ∧ Good ws ls ∧ ws.length ≤ 1000 ∧ AnsAt H q ans ∧ PapAt H r pa rows ∧ PapIs ws ls ans rows ∧ ∀ H', Same H H' → Q (.bl true) H'
abbrev N_l_is_paper : List Str := ["_law_web", "_law_answers_here", "_law_thing", "_law_k", "_law_row", "_law_good", "_law_one"]
def t_l_is_paper_two (K : PySem.W.Frag) : TS := (tIfS (tAnd (tTest (tOp rEq (tOp (rIx K) (tVar 4) (tC (.int 0))) (tC (.str "lacks")))) (tAnd (tNot (tB (tOp (rIx K) (tVar 6) (tC (.int 1))))) (tAnd (tTest (tOp rEq (tOp (rIx K) (tOp (rIx K) (tVar 4) (tC (.int 1))) (tUn rNegI (tC (.int 1)))) (tOp (rIx K) (tVar 6) (tC (.int 0))))) (tTest (tOp rEq (tOp (rIx K) (tOp (rIx K) (tVar 4) (tC (.int 1))) (tC (.int 0))) (tOp (rIx K) (tOp (rIx K) (tVar 0) (tC (.int 0))) (tVar 3))))))) (tAsg (tC (.bl true)) (gName 5)) tNext)
def t_l_is_paper_one (K : PySem.W.Frag) : TS := (tSeq (tIfS (tAnd (tTest (tOp rEq (tOp (rIx K) (tVar 4) (tC (.int 0))) (tC (.str "held")))) (tAnd (tB (tOp (rIx K) (tVar 6) (tC (.int 1)))) (tAnd (tTest (tOp rEq (tOp (rIx K) (tOp (rIx K) (tVar 4) (tC (.int 1))) (tC (.int 0))) (tOp (rIx K) (tVar 6) (tC (.int 0))))) (tTest (tOp rEq (tOp (rIx K) (tOp (rIx K) (tVar 4) (tC (.int 1))) (tUn rNegI (tC (.int 1)))) (tOp (rIx K) (tOp (rIx K) (tVar 0) (tC (.int 0))) (tVar 3))))))) (tAsg (tC (.bl true)) (gName 5)) tNext)
    (t_l_is_paper_two K))
def t_l_is_paper_end (K : PySem.W.Frag) : TS := (tIfS (tNot (tB (tVar 5))) (tRet (tC (.bl false))) tNext)
def t_l_is_paper_good (K : PySem.W.Frag) : TS := (tSeq (tAsg (tC (.bl false)) (gName 5))
    (tSeq (tFor (iTup K (tVar 1)) (gName 6) (t_l_is_paper_one K))
    (t_l_is_paper_end K)))
def t_l_is_paper_row (K : PySem.W.Frag) : TS := (tSeq (tAsg (tOp (rIx K) (tVar 2) (tVar 3)) (gName 4))
    (tSeq (tIfS (tOr (tNot (tB (tCB (rIsi K) (tCons (tVar 4) (tCons (tC (.ty "tuple")) tNil))))) (tOr (tTest (tOp rNe (tCB (fLen K) (tCons (tVar 4) tNil)) (tC (.int 2)))) (tNot (tB (tCB (rIsi K) (tCons (tOp (rIx K) (tVar 4) (tC (.int 0))) (tCons (tC (.ty "str")) tNil))))))) (tRet (tC (.bl false))) tNext)
    (tSeq (tIfS (tNot (tB (tCall (sp_l_is_way K) [] E0 (tCons (tVar 0) (tCons (tOp (rIx K) (tVar 4) (tC (.int 1))) tNil))))) (tRet (tC (.bl false))) tNext)
    (t_l_is_paper_good K))))
def t_l_is_paper (K : PySem.W.Frag) : TS := (tSeq (tIfS (tOr (tNot (tB (tCB (rIsi K) (tCons (tVar 2) (tCons (tC (.ty "tuple")) tNil))))) (tTest (tOp rNe (tCB (fLen K) (tCons (tVar 2) tNil)) (tCB (fLen K) (tCons (tOp (rIx K) (tVar 0) (tC (.int 0))) tNil))))) (tRet (tC (.bl false))) tNext)
    (tSeq (tFor (iRng1 (tCons (tCB (fLen K) (tCons (tVar 2) tNil)) tNil)) (gName 3) (t_l_is_paper_row K))
    (tRet (tC (.bl true)))))
theorem GoodRow.inn {ws : List Int} {ls : List (Int × Int)} {ans : List (Int × Bool)} {w : Int} {e : Bool × List Int} (h : GoodRow ls ans w e) (g : Good ws ls) (hw : w ∈ ws) : ∀ x ∈ e.2, x ∈ ws := fun x hx => by
  obtain ⟨i, hi, ei⟩ := List.getElem_of_mem hx
  have ex : e.2[i]? = some x := List.getElem?_eq_some_iff.mpr ⟨hi, ei⟩
  cases eb : e.1 with
  | true =>
    by_cases hl : i + 1 < e.2.length
    · exact (g.mem _ (h.lk i x _ ex (List.getElem?_eq_getElem hl))).1
    · have := (h.up eb).2
      rw [show e.2.length - 1 = i by omega, ex] at this
      cases Option.some.inj this
      exact hw
  | false =>
    cases i with
    | zero =>
      have := (h.dn eb).1
      rw [ex] at this
      cases Option.some.inj this
      exact hw
    | succ j => exact (g.mem _ (h.lk j _ x (List.getElem?_eq_getElem (by omega)) ex)).2.1
section
variable {K : PySem.W.Frag} {vs : List V} {H : Hp} {Q : VK} {E : XK}
theorem len_l_is_paper (h : sp_l_is_paper K vs H Q E) : vs.length = 3 := by obtain ⟨_, _, _, _, _, _, _, _, rfl, _⟩ := h; rfl
theorem paper_two {D : Ends} {p q r a t x a0 r0 : Addr} {k : Int} {ys zs : List V} {g b wd : Bool} {v f l w : Int} (ha : H a = some (.tup [.str (word wd), .ref t])) (ht : H t = some (.tup ys)) (h0 : atI ys 0 = some (.int f)) (hl : atI ys (-1) = some (.int l)) (hx : H x = some (.tup [.int v, .bl b])) (hp : H p = some (.tup [.ref a0, .ref r0])) (ha0 : H a0 = some (.tup zs)) (hz : atI zs k = some (.int w))
    (kk : ∀ g' : Bool, (g = true → g' = true) → (wd = false → b = false → l = v → f = w → g' = true) → D.nx [some (.ref p), some (.ref q), some (.ref r), some (.int k), some (.ref a), some (.bl g'), some (.ref x)] H) :
    t_l_is_paper_two K D [some (.ref p), some (.ref q), some (.ref r), some (.int k), some (.ref a), some (.bl g), some (.ref x)] H := by
  cases wd with
  | true =>
    refine ⟨_, rfl, ixT ha rfl ⟨rfl, _, rfl, ite2 (fun z => absurd (of_decide_eq_true z) (by decide +kernel)) fun _ => iteF ?_⟩⟩
    exact kk g id fun z => nomatch z
  | false =>
    refine ⟨_, rfl, ixT ha rfl ⟨rfl, _, rfl, ite2 (fun _ => ?_) fun z => absurd (decide_eq_true rfl) z⟩⟩
    refine ⟨_, rfl, ixT hx rfl ⟨_, rfl, ?_⟩⟩
    cases b with
    | true => exact iteF (iteF (kk g id fun _ z => nomatch z))
    | false =>
      refine iteT ⟨_, rfl, ixT ha rfl ⟨_, rfl, ixT ht hl ⟨_, rfl, ixT hx rfl ⟨rfl, _, rfl, ite2 (fun z1 => ?_) fun z1 => iteF (kk g id fun _ _ e _ => absurd (decide_eq_true (by rw [e])) z1)⟩⟩⟩⟩
      refine ⟨_, rfl, ixT ha rfl (ixT ht h0 ⟨_, rfl, ixT hp rfl ⟨_, rfl, ixT ha0 hz ⟨rfl, _, rfl, ite2 (fun z2 => ?_) fun z2 => kk g id fun _ _ _ e => absurd (decide_eq_true (by rw [e])) z2⟩⟩⟩)⟩
      exact kk true (fun _ => rfl) fun _ _ _ _ => rfl
theorem paper_one {D : Ends} {p q r a t x a0 r0 : Addr} {k : Int} {ys zs : List V} {g b wd : Bool} {v f l w : Int} (ha : H a = some (.tup [.str (word wd), .ref t])) (ht : H t = some (.tup ys)) (h0 : atI ys 0 = some (.int f)) (hl : atI ys (-1) = some (.int l)) (hx : H x = some (.tup [.int v, .bl b])) (hp : H p = some (.tup [.ref a0, .ref r0])) (ha0 : H a0 = some (.tup zs)) (hz : atI zs k = some (.int w))
    (kk : ∀ g' : Bool, (g = true → g' = true) → (wd = true → b = true → f = v → l = w → g' = true) → (wd = false → b = false → l = v → f = w → g' = true) → D.nx [some (.ref p), some (.ref q), some (.ref r), some (.int k), some (.ref a), some (.bl g'), some (.ref x)] H) :
    t_l_is_paper_one K D [some (.ref p), some (.ref q), some (.ref r), some (.int k), some (.ref a), some (.bl g), some (.ref x)] H := by
  have two : ∀ g1 : Bool, (g = true → g1 = true) → (wd = true → b = true → f = v → l = w → g1 = true) → t_l_is_paper_two K D [some (.ref p), some (.ref q), some (.ref r), some (.int k), some (.ref a), some (.bl g1), some (.ref x)] H := fun g1 h1 h2 =>
    paper_two ha ht h0 hl hx hp ha0 hz fun g2 h3 h4 => kk g2 (fun z => h3 (h1 z)) (fun z1 z2 z3 z4 => h3 (h2 z1 z2 z3 z4)) h4
  cases wd with
  | false =>
    refine ⟨_, rfl, ixT ha rfl ⟨rfl, _, rfl, ite2 (fun z => absurd (of_decide_eq_true z) (by decide +kernel)) fun _ => iteF ?_⟩⟩
    exact two g id fun z => nomatch z
  | true =>
    refine ⟨_, rfl, ixT ha rfl ⟨rfl, _, rfl, ite2 (fun _ => ?_) fun z => absurd (decide_eq_true rfl) z⟩⟩
    refine ⟨_, rfl, ixT hx rfl ⟨_, rfl, ?_⟩⟩
    cases b with
    | false => exact iteF (iteF (two g id fun _ z => nomatch z))
    | true =>
      refine iteT ⟨_, rfl, ixT ha rfl (ixT ht h0 ⟨_, rfl, ixT hx rfl ⟨rfl, _, rfl, ite2 (fun z1 => ?_) fun z1 => iteF (two g id fun _ _ e _ => absurd (decide_eq_true (by rw [e])) z1)⟩⟩)⟩
      refine ⟨_, rfl, ixT ha rfl ⟨_, rfl, ixT ht hl ⟨_, rfl, ixT hp rfl ⟨_, rfl, ixT ha0 hz ⟨rfl, _, rfl, ite2 (fun z2 => ?_) fun z2 => two g id fun _ _ _ e => absurd (decide_eq_true (by rw [e])) z2⟩⟩⟩⟩⟩
      exact two true (fun _ => rfl) fun _ _ _ _ => rfl
theorem pure_l_is_paper (h : sp_l_is_paper K vs H Q E) : t_l_is_paper K { nx := fun _ H' => Q .non H', rt := Q } (start N_l_is_paper vs) H := by
  obtain ⟨p, q, r, ws, ls, ans, pa, rows, rfl, sh, g, hw, an, pt, pis, k⟩ := h
  obtain ⟨a0, r0, rs, hp, ha0, hr0, lk⟩ := id sh
  have hpl : pa.length = ws.length := by rw [pt.len, pis.len]
  refine ⟨_, rfl, isTupP pt.top ⟨_, rfl, iteF ?_⟩⟩
  refine ⟨_, rfl, lenT pt.top ⟨_, rfl, ixT hp rfl (lenT ha0 ⟨rfl, _, rfl, ite2 (fun z => ?_) fun _ => ?_⟩)⟩⟩
  · rw [Bool.not_eq_true', decide_eq_false_iff_not] at z
    exact absurd (by rw [List.length_map, List.length_map, hpl]) z
  refine ⟨_, rfl, lenT pt.top ⟨_, rfl, (len_le (by rw [List.length_map]; omega)).1, (len_le (by rw [List.length_map]; omega)).2, ?_⟩⟩
  refine for_range (lo := 0) (n := (((pa.map V.ref).length : Int)).toNat) (fun i σ H2 => Same H H2 ∧ ∃ z3 z4 z5 z6 : Option V, σ = [some (.ref p), some (.ref q), some (.ref r), z3, z4, z5, z6]) ⟨.refl _, none, none, none, none, rfl⟩ ?_ ?_
  · rintro i σ H2 hi ⟨s2, z3, z4, z5, z6, rfl⟩
    rw [List.length_map, Int.toNat_natCast] at hi
    have ea : pa[i]? = some pa[i] := List.getElem?_eq_getElem hi
    have er : rows[i]? = some (rows[i]'(by rw [← pt.len]; exact hi)) := List.getElem?_eq_getElem _
    have ew : ws[i]? = some (ws[i]'(by rw [← hpl]; exact hi)) := List.getElem?_eq_getElem _
    have em := List.mem_of_getElem? er
    generalize pa[i] = a at ea
    generalize rows[i]'(by rw [← pt.len]; exact hi) = e at er em
    generalize ws[i]'(by rw [← hpl]; exact hi) = w at ew
    obtain ⟨t, h1, h2⟩ := pt.row i a e ea er
    have gr := RowIs.good pis (pis.is i w e ew er)
    have hpos := gr.ne
    have few := pis.few e em
    have top2 := s2 _ _ pt.top
    have a1 := s2 _ _ h1
    have a2 := s2 _ _ h2
    have ia : atI (pa.map V.ref) (0 + (i : Int)) = some (.ref a) := by
      unfold atI ixN
      rw [List.length_map, if_pos (by omega), if_pos (by omega)]
      show (pa.map V.ref)[(0 + (i : Int)).toNat]? = _
      rw [show (0 + (i : Int)).toNat = i by omega, List.getElem?_map, ea]
      rfl
    show t_l_is_paper_row K _ [some (.ref p), some (.ref q), some (.ref r), some (.int (0 + (i : Int))), z4, z5, z6] H2
    refine ⟨_, rfl, _, rfl, ixT top2 ia ?_⟩
    refine ⟨_, rfl, isTupP a1 ⟨_, rfl, iteF ?_⟩⟩
    refine ⟨_, rfl, lenT a1 ⟨rfl, _, rfl, iteF ?_⟩⟩
    refine ⟨_, rfl, ixT a1 rfl (isi (.base (.str _)) rfl ⟨_, rfl, iteF ?_⟩)⟩
    refine ⟨_, rfl, _, rfl, ixT a1 rfl ⟨p, t, ws, ls, e.2, rfl, sh.mono (fun b xs z => s2 _ _ z), a2, hpos, by omega, gr.inn g (List.mem_of_getElem? ew), gr.lk, fun H3 s3 => ⟨_, rfl, iteF ?_⟩⟩⟩
    have s23 := s2.trans s3
    show t_l_is_paper_good K _ [some (.ref p), some (.ref q), some (.ref r), some (.int (0 + (i : Int))), some (.ref a), z5, z6] H3
    obtain ⟨as, hq, hal, has⟩ : AnsAt H3 q ans := an.mono fun b xs z => s23 _ _ z
    obtain ⟨f, ef⟩ : ∃ f, e.2[0]? = some f := ⟨_, List.getElem?_eq_getElem hpos⟩
    obtain ⟨l, el⟩ : ∃ l, e.2[e.2.length - 1]? = some l := ⟨_, List.getElem?_eq_getElem (by omega)⟩
    have if0 : atI (e.2.map V.int) 0 = some (.int f) := at_of (i := 0) ef
    have ifl : atI (e.2.map V.int) (-1) = some (.int l) := by
      unfold atI ixN
      rw [List.length_map, if_neg (by decide), if_pos (by omega)]
      show (e.2.map V.int)[(-1 + ((e.2.length : Nat) : Int)).toNat]? = _
      rw [show (-1 + ((e.2.length : Nat) : Int)).toNat = e.2.length - 1 by omega, List.getElem?_map, el]
      rfl
    have iw : atI (ws.map V.int) (0 + (i : Int)) = some (.int w) := by rw [show 0 + (i : Int) = (i : Int) by omega]; exact at_of ew
    -- one of the answers is the right one
    obtain ⟨m, hm⟩ : ∃ m v b, ans[m]? = some (v, b) ∧ ((e.1 = true ∧ b = true ∧ f = v ∧ l = w) ∨ (e.1 = false ∧ b = false ∧ l = v ∧ f = w)) := by
      cases eb : e.1 with
      | true =>
        obtain ⟨⟨s, g1, g2⟩, g3⟩ := gr.up eb
        rw [ef] at g1
        rw [el] at g3
        obtain ⟨m, hm⟩ := List.getElem?_of_mem g2
        exact ⟨m, s, true, hm, .inl ⟨rfl, rfl, Option.some.inj g1, Option.some.inj g3⟩⟩
      | false =>
        obtain ⟨g3, s, g1, g2⟩ := gr.dn eb
        rw [el] at g1
        rw [ef] at g3
        obtain ⟨m, hm⟩ := List.getElem?_of_mem g2
        exact ⟨m, s, false, hm, .inr ⟨rfl, rfl, Option.some.inj g1, Option.some.inj g3⟩⟩
    obtain ⟨v0, b0, hm, ok⟩ := hm
    refine ⟨_, rfl, q, rfl, ⟨_, sqT hq⟩, ?_⟩
    refine for_tup (K := K) (a := q) (xs := as.map V.ref) (fun j σ H' => H' = H3 ∧ ∃ (gb : Bool) (z6 : Option V), σ = [some (.ref p), some (.ref q), some (.ref r), some (.int (0 + (i : Int))), some (.ref a), some (.bl gb), z6] ∧ (m < j → gb = true)) ⟨rfl, false, _, rfl, fun z => absurd z (Nat.not_lt_zero _)⟩ (fun j σ H' _ ⟨e, _⟩ => by rw [e]; exact sqT hq) ?_ ?_
    · rintro j x σ H' hx ⟨rfl, gb, z6, rfl, hg⟩
      obtain ⟨b, rfl, eb⟩ := ref_at hx
      have hj : j < ans.length := by rw [← hal]; exact (List.getElem?_eq_some_iff.mp eb).1
      have ee : ans[j]? = some ans[j] := List.getElem?_eq_getElem hj
      generalize ans[j] = y at ee
      obtain ⟨v, c⟩ := y
      refine paper_one (s3 _ _ a1) (s3 _ _ a2) if0 ifl (has j b _ eb ee) (s23 _ _ hp) (s23 _ _ ha0) iw fun g' k1 k2 k3 => ?_
      refine ⟨rfl, g', _, rfl, fun hlt => ?_⟩
      by_cases hmj : m < j
      · exact k1 (hg hmj)
      · have e1 : m = j := by omega
        subst e1
        rw [ee] at hm
        cases Option.some.inj hm
        rcases ok with ⟨q1, q2, q3, q4⟩ | ⟨q1, q2, q3, q4⟩
        · exact k2 q1 q2 q3 q4
        · exact k3 q1 q2 q3 q4
    · rintro σ H' ⟨rfl, gb, z6, rfl, hg⟩
      rw [List.length_map, hal] at hg
      rw [hg (List.getElem?_eq_some_iff.mp hm).1]
      exact ⟨_, rfl, _, rfl, iteF ⟨s23, _, _, _, _, rfl⟩⟩
  · rintro σ H2 ⟨s2, z3, z4, z5, z6, rfl⟩
    exact k H2 s2
end
end Fw

set_option Elab.async false
set_option linter.all false
set_option maxRecDepth 100000
set_option maxHeartbeats 4000000
namespace Fw
open PySem L2 RZ RT
theorem samNw {H : Hp} {q : Addr} {o : HO} (n : H q = none) : Same H (upd H q o) := fun b u e => updN (ne_of_none e n) e
theorem samFr {H H' : Hp} {q : Addr} (s : Same H H') (h : H' q = none) : H q = none := by
  cases e : H q with
  | none => rfl
  | some o => rw [s _ _ e] at h; cases h
/-! ### data beside the deck -/
/-- the value x is the data d, all of it elsewhere than at D, each row of it at most B long -/
inductive An (D : Addr) (B : Nat) (H : Hp) : V → Dt → Prop where
  | non : An D B H .non .non
  | bl (b : Bool) : An D B H (.bl b) (.bl b)
  | int (i : Int) : An D B H (.int i) (.int i)
  | str (z : Str) : An D B H (.str z) (.str z)
  | tup {p : Addr} {xs : List V} {ds : List Dt} (n : p ≠ D) (h : H p = some (.tup xs)) (hz : xs.length ≤ B) (hl : xs.length = ds.length) (ha : ∀ (i : Nat) (x : V) (d : Dt), xs[i]? = some x → ds[i]? = some d → An D B H x d) : An D B H (.ref p) (.tup ds)
  | lst {p : Addr} {xs : List V} {ds : List Dt} (n : p ≠ D) (h : H p = some (.lst xs)) (hz : xs.length ≤ B) (hl : xs.length = ds.length) (ha : ∀ (i : Nat) (x : V) (d : Dt), xs[i]? = some x → ds[i]? = some d → An D B H x d) : An D B H (.ref p) (.lst ds)
  | dct {p : Addr} {kvs : List (Key × V)} (n : p ≠ D) (h : H p = some (.dK kvs)) : An D B H (.ref p) .dct
theorem An.mono {D : Addr} {B B' : Nat} {H H' : Hp} (k : Kp D H H') (hb : B ≤ B') {x : V} {d : Dt} (a : An D B H x d) : An D B' H' x d := by
  induction a with
  | non => exact .non
  | bl b => exact .bl b
  | int i => exact .int i
  | str z => exact .str z
  | tup n h hz hl _ ih => exact .tup n (k _ _ h n) (Nat.le_trans hz hb) hl ih
  | lst n h hz hl _ ih => exact .lst n (k _ _ h n) (Nat.le_trans hz hb) hl ih
  | dct n h => exact .dct n (k _ _ h n)
theorem An.at {D : Addr} {B : Nat} {H : Hp} (hb : B ≤ 100000) {x : V} {d : Dt} (a : An D B H x d) : At H x d := by
  induction a with
  | non => exact .non
  | bl b => exact .bl b
  | int i => exact .int i
  | str z => exact .str z
  | tup n h hz hl _ ih => exact .tup h (Nat.le_trans hz hb) hl ih
  | lst n h hz hl _ ih => exact .lst h (Nat.le_trans hz hb) hl ih
  | dct n h => exact .dct h
def Okd (D : Addr) (B : Nat) (H : Hp) (x : V) : Prop := ∃ d, An D B H x d
theorem Okd.mono {D : Addr} {B B' : Nat} {H H' : Hp} {x : V} (a : Okd D B H x) (k : Kp D H H') (hb : B ≤ B') : Okd D B' H' x := by
  obtain ⟨d, a⟩ := a
  exact ⟨d, a.mono k hb⟩
theorem pick_all {α β : Type} {P : α → β → Prop} : ∀ {xs : List α}, (∀ x ∈ xs, ∃ d, P x d) → ∃ ds : List β, xs.length = ds.length ∧ ∀ (i : Nat) (x : α) (d : β), xs[i]? = some x → ds[i]? = some d → P x d
  | [], _ => ⟨[], rfl, fun i x d h _ => by cases h⟩
  | x :: r, h => by
    obtain ⟨d, hd⟩ := h x List.mem_cons_self
    obtain ⟨ds, hl, hs⟩ := pick_all (xs := r) fun y hy => h y (List.mem_cons_of_mem _ hy)
    refine ⟨d :: ds, by rw [List.length_cons, List.length_cons, hl], fun i y e h1 h2 => ?_⟩
    cases i with
    | zero =>
      cases Option.some.inj h1
      cases Option.some.inj h2
      exact hd
    | succ i => exact hs i y e h1 h2
theorem Okd.tup {D p : Addr} {B : Nat} {H : Hp} {xs : List V} (n : p ≠ D) (h : H p = some (.tup xs)) (hz : xs.length ≤ B) (ha : ∀ x ∈ xs, Okd D B H x) : Okd D B H (.ref p) := by
  obtain ⟨ds, hl, hs⟩ := pick_all ha
  exact ⟨_, .tup n h hz hl hs⟩
theorem Okd.lst {D p : Addr} {B : Nat} {H : Hp} {xs : List V} (n : p ≠ D) (h : H p = some (.lst xs)) (hz : xs.length ≤ B) (ha : ∀ x ∈ xs, Okd D B H x) : Okd D B H (.ref p) := by
  obtain ⟨ds, hl, hs⟩ := pick_all ha
  exact ⟨_, .lst n h hz hl hs⟩
theorem Okd.int {D : Addr} {B : Nat} {H : Hp} (i : Int) : Okd D B H (.int i) := ⟨_, .int i⟩
theorem all_of {D : Addr} {B : Nat} {H : Hp} {xs : List V} {ds : List Dt} (hl : xs.length = ds.length) (ha : ∀ (i : Nat) (x : V) (d : Dt), xs[i]? = some x → ds[i]? = some d → An D B H x d) : ∀ x ∈ xs, Okd D B H x := fun x hx => by
  obtain ⟨i, hi, e⟩ := List.getElem_of_mem hx
  have h2 : i < ds.length := by omega
  exact ⟨_, ha i x _ (List.getElem?_eq_some_iff.mpr ⟨hi, e⟩) (List.getElem?_eq_getElem h2)⟩
/-! ### literals -/
def EvX (D : Addr) (te : TE) : Prop := ∀ (σ : L2.St) (H : Hp) (Q : VK), H D ≠ none → (∀ x H', Same H H' → Okd D 20 H' x → Q x H') → te σ H Q
def EvXs (D : Addr) (ta : TA) (n : Nat) : Prop := ∀ (σ : L2.St) (H : Hp) (Q : List V → Hp → Prop), H D ≠ none → (∀ xs H', Same H H' → xs.length = n → (∀ x ∈ xs, Okd D 20 H' x) → Q xs H') → ta σ H Q
theorem ne_same {D : Addr} {H H' : Hp} (s : Same H H') (h : H D ≠ none) : H' D ≠ none := fun e => by
  cases q : H D with
  | none => exact h q
  | some o => rw [s _ _ q] at e; cases e
theorem ne_new {D p : Addr} {H : Hp} (h : H D ≠ none) (n : H p = none) : p ≠ D := fun e => h (by rw [← e]; exact n)
section
variable {D : Addr}
theorem EvX.non : EvX D (tC .non) := fun σ H Q _ k => k _ _ (Same.refl H) ⟨_, .non⟩
theorem EvX.bl {b : Bool} : EvX D (tC (.bl b)) := fun σ H Q _ k => k _ _ (Same.refl H) ⟨_, .bl b⟩
theorem EvX.int {i : Int} : EvX D (tC (.int i)) := fun σ H Q _ k => k _ _ (Same.refl H) ⟨_, .int i⟩
theorem EvX.neg {i : Int} : EvX D (tUn rNegI (tC (.int i))) := fun σ H Q _ k => ⟨_, rfl, k _ _ (Same.refl H) ⟨_, .int _⟩⟩
theorem EvX.str {z : Str} : EvX D (tC (.str z)) := fun σ H Q _ k => k _ _ (Same.refl H) ⟨_, .str z⟩
theorem EvX.pow : EvX D (tOp rPowI (tC (.int 10)) (tC (.int 30))) := fun σ H Q _ k => ⟨_, _, rfl, rfl, ⟨by decide, by decide, by decide⟩, k _ _ (Same.refl H) ⟨_, .int _⟩⟩
theorem EvX.dnew : EvX D tDNewK := fun σ H Q h k p hp => k _ _ (samNw hp) ⟨_, .dct (ne_new h hp) updS⟩
theorem EvX.disp : EvX D (tDisp ((tC (.int 0), tC (.int 1)) :: [])) := fun σ H Q h k p hp => by
  refine ⟨updS, [(.inl 0, .int 1)], rfl, by decide, ?_⟩
  rw [upd_upd]
  exact k _ _ (samNw hp) ⟨_, .dct (ne_new h hp) updS⟩
theorem EvXs.nil : EvXs D tNil 0 := fun σ H Q _ k => k _ _ (Same.refl H) rfl fun x hx => by cases hx
theorem EvXs.cons {te : TE} {ta : TA} {n : Nat} (h : EvX D te) (r : EvXs D ta n) : EvXs D (tCons te ta) (n + 1) := fun σ H Q hD k => by
  refine h σ H _ hD fun x H1 s1 o1 => r σ H1 _ (ne_same s1 hD) fun xs H2 s2 hl ho => k _ _ (s1.trans s2) (by rw [List.length_cons, hl]) fun y hy => ?_
  rcases List.mem_cons.mp hy with rfl | hy
  · exact o1.mono (Kp.of_same s2) (Nat.le_refl _)
  · exact ho y hy
theorem EvX.tup {ta : TA} {n : Nat} (h : EvXs D ta n) (hn : n ≤ 20) : EvX D (tTup ta) := fun σ H Q hD k => by
  refine h σ H _ hD fun xs H1 s1 hl ho => ⟨Nat.le_trans (by omega : xs.length ≤ 20) (by decide), fun p hp => ?_⟩
  have s2 := samNw (o := .tup xs) hp
  exact k _ _ (s1.trans s2) (.tup (ne_new (ne_same s1 hD) hp) updS (by omega) fun x hx => (ho x hx).mono (Kp.of_same s2) (Nat.le_refl _))
theorem EvX.lst {ta : TA} {n : Nat} (h : EvXs D ta n) (hn : n ≤ 20) : EvX D (tLst ta) := fun σ H Q hD k => by
  refine h σ H _ hD fun xs H1 s1 hl ho => ⟨Nat.le_trans (by omega : xs.length ≤ 20) (by decide), fun p hp => ?_⟩
  have s2 := samNw (o := .lst xs) hp
  exact k _ _ (s1.trans s2) (.lst (ne_new (ne_same s1 hD) hp) updS (by omega) fun x hx => (ho x hx).mono (Kp.of_same s2) (Nat.le_refl _))
end
/-! ### _law_int of any data -/
abbrev sp_l_intA (K : PySem.W.Frag) : Sp := sp_is_int K
theorem len_l_intA {K : PySem.W.Frag} {vs : List V} {H : Hp} {Q : VK} {E : XK} (h : sp_l_intA K vs H Q E) : vs.length = 1 := len_is_int h
theorem pure_l_intA {K : PySem.W.Frag} {vs : List V} {H : Hp} {Q : VK} {E : XK} (h : sp_l_intA K vs H Q E) : t_l_int K { nx := fun _ H' => Q .non H', rt := Q } (start N_l_int vs) H := pure_is_int h
/-! ### _law_odd -/
def sp_l_odd (_ : PySem.W.Frag) : Sp := fun vs H Q _ => ∃ (c D : Addr) (ns : List Int) (t : Nat), vs = [.ref D] ∧ Dk c D ns t H ∧ t < 1000000 ∧ ∀ x H', Kp D H H' → Dk c D ns (t + 1) H' → Okd D 20 H' x → Q x H'
abbrev N_l_odd : List Str := ["_law_deck_here", "_law_some"]
def t_l_odd_c (K : PySem.W.Frag) : TS := (tRet (tOp (rIx K) (tVar 1) (tCall (sp_l_draw K) [] E0 (tCons (tVar 0) (tCons (tCB (fLen K) (tCons (tVar 1) tNil)) tNil)))))
def t_l_odd_b (K : PySem.W.Frag) : TS := (tSeq (tAsg (tOp rCat (tVar 1) (tLst (tCons (tTup (tCons (tTup tNil) (tCons (tTup tNil) tNil))) (tCons (tTup (tCons (tTup (tCons (tC (.int 0)) (tCons (tC (.int 1)) tNil))) (tCons (tTup (tCons (tTup (tCons (tC (.int 1)) (tCons (tC (.int 0)) tNil))) tNil)) tNil))) (tCons (tTup (tCons (tTup (tCons (tC (.int 0)) tNil)) (tCons (tTup (tCons (tC (.int 0)) tNil)) tNil))) (tCons (tDisp (((tC (.int 0)), (tC (.int 1))) :: [])) (tCons (tTup (tCons (tTup (tCons (tC (.int 0)) (tCons (tTup (tCons (tC (.int 0)) tNil)) tNil))) tNil)) (tCons (tTup (tCons (tTup (tCons (tTup (tCons (tTup (tCons (tTup (tCons (tTup (tCons (tTup (tCons (tTup (tCons (tTup (tCons (tTup (tCons (tC (.int 0)) tNil)) tNil)) tNil)) tNil)) tNil)) tNil)) tNil)) tNil)) tNil)) tNil)) tNil)))))))) (gName 1))
    (t_l_odd_c K))
def t_l_odd (K : PySem.W.Frag) : TS := (tSeq (tAsg (tLst (tCons (tC .non) (tCons (tC (.bl true)) (tCons (tC (.bl false)) (tCons (tUn rNegI (tC (.int 1))) (tCons (tC (.int 0)) (tCons (tC (.int 1)) (tCons (tOp rPowI (tC (.int 10)) (tC (.int 30))) (tCons (tC (.str "")) (tCons (tC (.str "a")) (tCons (tC (.str "held")) (tCons (tC (.str "lacks")) (tCons (tTup tNil) (tCons (tLst tNil) (tCons tDNewK (tCons (tTup (tCons (tC (.int 0)) tNil)) (tCons (tTup (tCons (tC (.int 0)) (tCons (tC (.int 1)) tNil))) (tCons (tLst (tCons (tC (.int 0)) tNil)) (tCons (tTup (tCons (tTup tNil) tNil)) tNil))))))))))))))))))) (gName 1))
    (t_l_odd_b K))
theorem len_l_odd {K : PySem.W.Frag} {vs : List V} {H : Hp} {Q : VK} {E : XK} (h : sp_l_odd K vs H Q E) : vs.length = 1 := by
  obtain ⟨_, _, _, _, rfl, _⟩ := h
  rfl
theorem dk_some {c D : Addr} {ns : List Int} {t : Nat} {H : Hp} (d : Dk c D ns t H) : H D ≠ none := fun e => by
  obtain ⟨xs, h⟩ := d.someD
  rw [h] at e
  cases e
theorem Dk.kp {c D : Addr} {ns : List Int} {t : Nat} {H H' : Hp} (d : Dk c D ns t H) (s : Same H H') : Dk c D ns t H' := by
  obtain ⟨x1, x2, x3, i, n, u, x4, r⟩ := d
  exact ⟨x1, s _ _ x2, x3, i, n, u, s _ _ x4, r⟩
theorem lst_set {D : Addr} {ta : TA} {n : Nat} {g : TG} {E : Ends} {σ : L2.St} {H : Hp} (h : EvXs D ta n) (hn : n ≤ 20) (hD : H D ≠ none) (k : ∀ xs p H', Same H H' → H p = none → H' p = some (.lst xs) → xs.length = n → (∀ x ∈ xs, Okd D 20 H' x) → g (.ref p) σ H' E.nx) : tAsg (tLst ta) g E σ H := by
  refine h σ H _ hD fun xs H1 s1 hl ho => ⟨Nat.le_trans (by omega : xs.length ≤ 20) (by decide), fun p hp => ?_⟩
  have s2 := samNw (o := .lst xs) hp
  exact k xs p _ (s1.trans s2) (samFr s1 hp) updS hl fun x hx => (ho x hx).mono (Kp.of_same s2) (Nat.le_refl _)
theorem pure_l_odd {K : PySem.W.Frag} {vs : List V} {H : Hp} {Q : VK} {E : XK} (h : sp_l_odd K vs H Q E) : t_l_odd K { nx := fun _ H' => Q .non H', rt := Q } (start N_l_odd vs) H := by
  obtain ⟨c, D, ns, t, rfl, dk, ht, k⟩ := h
  have hD := dk_some dk
  unfold t_l_odd
  refine lst_set (D := D) (n := 18) (by repeat' (first | exact EvX.non | exact EvX.bl | exact EvX.int | exact EvX.neg | exact EvX.str | exact EvX.pow | exact EvX.dnew | exact EvX.disp | exact EvXs.nil | apply EvXs.cons | apply EvX.tup | apply EvX.lst | decide)) (by decide) hD fun xs p H1 s1 np hp hl ho => ?_
  have hpD : p ≠ D := dk.neD np
  show t_l_odd_b K { nx := fun _ H' => Q .non H', rt := Q } [some (.ref D), some (.ref p)] H1
  unfold t_l_odd_b
  refine ⟨_, rfl, ?_⟩
  have lit : ∀ ta : TA, EvXs D ta 6 → ∀ R : VK, (∀ ys q H2, Same H1 H2 → H1 q = none → H2 q = some (.lst ys) → ys.length = 6 → (∀ x ∈ ys, Okd D 20 H2 x) → R (.ref q) H2) → tLst ta [some (V.ref D), some (V.ref p)] H1 R := fun ta h R kk => by
    refine h _ H1 _ (ne_same s1 hD) fun ys H2 s2 hl ho => ⟨Nat.le_trans (by omega : ys.length ≤ 20) (by decide), fun q hq => ?_⟩
    have s3 := samNw (o := .lst ys) hq
    exact kk ys q _ (s2.trans s3) (samFr s2 hq) updS hl fun x hx => (ho x hx).mono (Kp.of_same s3) (Nat.le_refl _)
  refine lit _ (by repeat' (first | exact EvX.non | exact EvX.bl | exact EvX.int | exact EvX.neg | exact EvX.str | exact EvX.pow | exact EvX.dnew | exact EvX.disp | exact EvXs.nil | apply EvXs.cons | apply EvX.tup | apply EvX.lst | decide)) _ fun ys q H2 s2 nq hq hl2 ho2 => ?_
  refine ⟨p, q, xs, ys, rfl, rfl, s2 _ _ hp, hq, Nat.le_trans (by omega : xs.length + ys.length ≤ 100) (by decide), fun r nr => ?_⟩
  have s3 := samNw (o := .lst (xs ++ ys)) nr
  have d3 : Dk c D ns t (upd H2 r (.lst (xs ++ ys))) := dk.kp ((s1.trans s2).trans s3)
  have hrD : r ≠ D := (dk.kp (s1.trans s2)).neD nr
  show t_l_odd_c K { nx := fun _ H' => Q .non H', rt := Q } [some (.ref D), some (.ref r)] _
  have hall : ∀ x ∈ xs ++ ys, Okd D 20 (upd H2 r (.lst (xs ++ ys))) x := fun x hx => by
    rcases List.mem_append.mp hx with hx | hx
    · exact (ho x hx).mono (Kp.of_same (s2.trans s3)) (Nat.le_refl _)
    · exact (ho2 x hx).mono (Kp.of_same s3) (Nat.le_refl _)
  have hlen : (xs ++ ys).length = 24 := by rw [List.length_append, hl, hl2]
  refine ⟨_, rfl, _, rfl, _, rfl, lenL updS ⟨c, D, ns, t, _, rfl, d3, by omega, ?_, small100 ?_, fun v H4 v0 v1 d4 fr4 => ?_⟩⟩
  · rw [hlen]; decide
  · rw [hlen]; decide
  · rw [hlen] at v1
    obtain ⟨m, rfl⟩ := Int.eq_ofNat_of_zero_le v0
    have hm : m < (xs ++ ys).length := by omega
    refine ixL (by rw [fr4 _ hrD]; exact updS) (atI_nat (List.getElem?_eq_getElem hm)) ?_
    exact k _ _ ((Kp.of_same ((s1.trans s2).trans s3)).trans (Kp.fr fr4)) d4 ((hall _ (List.getElem_mem hm)).mono (Kp.fr fr4) (Nat.le_refl _))
end Fw

set_option Elab.async false
set_option linter.all false
set_option maxRecDepth 100000
set_option maxHeartbeats 4000000
namespace Fw
open PySem L2 RZ RT
/-! ### slices and sums of tuples beside the deck -/
section
variable {K : PySem.W.Frag} {D a b : Addr} {H : Hp} {xs ys : List V} {Q : VK}
theorem sl_step {lo hi : Option Int} (na : a ≠ D) (hD : H D ≠ none) (h : H a = some (.tup xs)) (k : ∀ q zs H', Same H H' → q ≠ D → H' q = some (.tup zs) → zs.length ≤ HT.sIx xs.length xs.length hi - HT.sIx xs.length 0 lo → (∀ y ∈ zs, y ∈ xs) → Q (.ref q) H') : rSlA K (.ref a) lo hi H Q := by
  refine ⟨a, xs, rfl, sqT h, fun e => k a xs H (Same.refl H) na h (by rw [e.1, e.2]; exact Nat.le_refl _) fun y hy => hy, fun _ p np => k p _ _ (samNw np) (ne_new hD np) updS ?_ fun y hy => ?_⟩
  · unfold cutV
    rw [List.length_take]
    exact Nat.min_le_left _ _
  · unfold cutV at hy
    exact List.mem_of_mem_drop (List.mem_of_mem_take hy)
theorem sl_stepN {lo : Option Int} {σ : L2.St} (na : a ≠ D) (hD : H D ≠ none) (h : H a = some (.tup xs)) (k : ∀ q zs H', Same H H' → q ≠ D → H' q = some (.tup zs) → zs.length ≤ HT.sIx xs.length xs.length none - HT.sIx xs.length 0 lo → (∀ y ∈ zs, y ∈ xs) → Q (.ref q) H') : tNoPart σ H fun u H3 => rSlA K (.ref a) lo u H3 Q := sl_step na hD h k
theorem cat_step (na : a ≠ D) (nb : b ≠ D) (hD : H D ≠ none) (ha : H a = some (.tup xs)) (hb : H b = some (.tup ys)) (hz : xs.length + ys.length ≤ 1000) (k : ∀ q H', Same H H' → q ≠ D → H' q = some (.tup (xs ++ ys)) → Q (.ref q) H') : rCatA K (.ref a) (.ref b) H Q := by
  refine ⟨a, b, xs, ys, rfl, rfl, sqT ha, sqT hb, Nat.le_trans hz (by decide), fun e => k b H (Same.refl H) nb (by rw [e]; exact hb), fun _ e => k a H (Same.refl H) na (by rw [e, List.append_nil]; exact ha), fun _ _ p np => k p _ (samNw np) (ne_new hD np) updS⟩
end
/-! ### _law_bent -/
def sp_bentN (_ : PySem.W.Frag) (n : Nat) : Sp := fun vs H Q _ => ∃ (c D : Addr) (ns : List Int) (t : Nat) (x : V) (B : Nat), vs = [.ref D, x, .int ((n : Int) - 1)] ∧ 0 < n ∧ Dk c D ns t H ∧ t + 3 * n < 1000000 ∧ Okd D B H x ∧ 20 ≤ B ∧ B ≤ 100 ∧
  ∀ x' H', Kp D H H' → Dk c D ns (t + 3 * n) H' → Okd D (B + 1) H' x' → Q x' H'
abbrev sp_l_bent (K : PySem.W.Frag) : Sp := sp_bentN K 4
theorem len_bentN {K : PySem.W.Frag} {n : Nat} {vs : List V} {H : Hp} {Q : VK} {E : XK} (h : sp_bentN K n vs H Q E) : vs.length = 3 := by
  obtain ⟨_, _, _, _, _, _, rfl, _⟩ := h
  rfl
abbrev N_l_bent : List Str := ["_law_deck_here", "_law_thing", "_law_depth", "_law_road", "_law_at"]
def t_l_bent_odd (K : PySem.W.Frag) (n : Nat) : TS := (tRet (tCall (sp_l_odd K) [] E0 (tCons (tVar 0) tNil)))
def t_l_bent_fst (K : PySem.W.Frag) (n : Nat) : TS := (tSeq (tIfS (tAnd (tB (tCall (sp_l_intA K) [] E0 (tCons (tVar 1) tNil))) (tTest (tOp rGtI (tVar 3) (tC (.int 2))))) (tRet (tOp rAddI (tVar 1) (tOp (rIx K) (tLst (tCons (tUn rNegI (tC (.int 1))) (tCons (tC (.int 1)) (tCons (tC (.int 2)) (tCons (tUn rNegI (tC (.int 2))) (tCons (tOp rSubI (tUn rNegI (tVar 1)) (tC (.int 1))) tNil)))))) (tCall (sp_l_draw K) [] E0 (tCons (tVar 0) (tCons (tC (.int 5)) tNil)))))) tNext)
    (t_l_bent_odd K n))
def t_l_bent_last (K : PySem.W.Frag) (n : Nat) : TS := (tRet (tOp (rCatA K) (tOp (rCatA K) (tSl (rSlA K) (tVar 1) tNoPart (tPart (tVar 4))) (tTup (tCons (tCall (sp_bentN K n) [] E0 (tCons (tVar 0) (tCons (tOp (rIx K) (tVar 1) (tVar 4)) (tCons (tOp rSubI (tVar 2) (tC (.int 1))) tNil)))) tNil))) (tSl (rSlA K) (tVar 1) (tPart (tOp rAddI (tVar 4) (tC (.int 1)))) tNoPart)))
def t_l_bent_four (K : PySem.W.Frag) (n : Nat) : TS := (tSeq (tIfS (tTest (tOp rEq (tVar 3) (tC (.int 4)))) (tRet (tOp (rCatA K) (tOp (rCatA K) (tOp (rCatA K) (tSl (rSlA K) (tVar 1) tNoPart (tPart (tVar 4))) (tSl (rSlA K) (tVar 1) (tPart (tOp rAddI (tVar 4) (tC (.int 1)))) (tPart (tOp rAddI (tVar 4) (tC (.int 2)))))) (tTup (tCons (tOp (rIx K) (tVar 1) (tVar 4)) tNil))) (tSl (rSlA K) (tVar 1) (tPart (tOp rAddI (tVar 4) (tC (.int 2)))) tNoPart))) tNext)
    (t_l_bent_last K n))
def t_l_bent_three (K : PySem.W.Frag) (n : Nat) : TS := (tSeq (tIfS (tTest (tOp rEq (tVar 3) (tC (.int 3)))) (tRet (tOp (rCatA K) (tSl (rSlA K) (tVar 1) tNoPart (tPart (tOp rAddI (tVar 4) (tC (.int 1))))) (tSl (rSlA K) (tVar 1) (tPart (tVar 4)) tNoPart))) tNext)
    (t_l_bent_four K n))
def t_l_bent_two (K : PySem.W.Frag) (n : Nat) : TS := (tSeq (tIfS (tTest (tOp rEq (tVar 3) (tC (.int 2)))) (tRet (tOp (rCatA K) (tSl (rSlA K) (tVar 1) tNoPart (tPart (tVar 4))) (tSl (rSlA K) (tVar 1) (tPart (tOp rAddI (tVar 4) (tC (.int 1)))) tNoPart))) tNext)
    (t_l_bent_three K n))
def t_l_bent_at (K : PySem.W.Frag) (n : Nat) : TS := (tSeq (tAsg (tCall (sp_l_draw K) [] E0 (tCons (tVar 0) (tCons (tCB (fLen K) (tCons (tVar 1) tNil)) tNil))) (gName 4))
    (t_l_bent_two K n))
def t_l_bent_len (K : PySem.W.Frag) (n : Nat) : TS := (tSeq (tIfS (tTest (tOp rEq (tCB (fLen K) (tCons (tVar 1) tNil)) (tC (.int 0)))) (tRet (tTup (tCons (tCall (sp_l_odd K) [] E0 (tCons (tVar 0) tNil)) tNil))) tNext)
    (t_l_bent_at K n))
def t_l_bent_one (K : PySem.W.Frag) (n : Nat) : TS := (tSeq (tIfS (tTest (tOp rEq (tVar 3) (tC (.int 1)))) (tRet (tCB (fListOf K) (tCons (tVar 1) tNil))) tNext)
    (t_l_bent_len K n))
def t_l_bent (K : PySem.W.Frag) (n : Nat) : TS := (tSeq (tAsg (tCall (sp_l_draw K) [] E0 (tCons (tVar 0) (tCons (tC (.int 8)) tNil))) (gName 3))
    (tSeq (tIfS (tOr (tTest (tOp rEq (tVar 2) (tC (.int 0)))) (tOr (tTest (tOp rEq (tVar 3) (tC (.int 0)))) (tNot (tB (tCB (rIsi K) (tCons (tVar 1) (tCons (tC (.ty "tuple")) tNil))))))) (t_l_bent_fst K n) tNext)
    (t_l_bent_one K n)))
theorem pick5 {w a b c d e : Int} (h0 : 0 ≤ w) (h1 : w < 5) : ∃ m : Int, atI [V.int a, .int b, .int c, .int d, .int e] w = some (.int m) := by
  have : w = 0 ∨ w = 1 ∨ w = 2 ∨ w = 3 ∨ w = 4 := by omega
  rcases this with rfl | rfl | rfl | rfl | rfl
  · exact ⟨_, rfl⟩
  · exact ⟨_, rfl⟩
  · exact ⟨_, rfl⟩
  · exact ⟨_, rfl⟩
  · exact ⟨_, rfl⟩
theorem pure_l_bent {K : PySem.W.Frag} {n : Nat} {vs : List V} {H : Hp} {Q : VK} {E : XK} (h : sp_bentN K (n + 1) vs H Q E) : t_l_bent K n { nx := fun _ H' => Q .non H', rt := Q } (start N_l_bent vs) H := by
  obtain ⟨c, D, ns, t, x, B, rfl, _, dk, ht, o, hB0, hB1, k⟩ := h
  refine ⟨_, rfl, c, D, ns, t, 8, rfl, dk, by omega, by decide, by decide, fun road H1 r0 r1 d1 fr1 => ?_⟩
  have k1 : Kp D H H1 := Kp.fr fr1
  have o1 := o.mono k1 (Nat.le_refl _)
  obtain ⟨d, a1⟩ := o1
  have at1 : At H1 x d := a1.at (by omega)
  have hD1 := dk_some d1
  have odd : ∀ X : L2.St → Hp → Prop, t_l_bent_odd K n { nx := X, rt := Q } [some (.ref D), some x, some (.int (((n + 1 : Nat) : Int) - 1)), some (.int road), none] H1 := fun X =>
    ⟨_, rfl, c, D, ns, t + 1, rfl, d1, by omega, fun y H2 k2 d2 oy => k y H2 (k1.trans k2) (d2.le (by omega)) (oy.mono (Kp.refl _ _) (by omega))⟩
  have fst : ∀ X : L2.St → Hp → Prop, t_l_bent_fst K n { nx := X, rt := Q } [some (.ref D), some x, some (.int (((n + 1 : Nat) : Int) - 1)), some (.int road), none] H1 := by
    intro X
    refine ⟨_, rfl, x, d, rfl, at1, _, rfl, ?_⟩
    cases d with
    | int i =>
      have ex := at1.int_inv
      subst ex
      refine iteT ⟨_, rfl, _, _, rfl, rfl, _, rfl, ite2 (fun e => ?_) (fun e => odd X)⟩
      refine ⟨_, rfl, _, rfl, _, rfl, _, rfl, _, rfl, _, _, rfl, rfl, (by show (5 : Nat) ≤ sizeLine; decide), fun L nL => ?_⟩
      have nLD := d1.neD nL
      refine ⟨_, rfl, c, D, ns, t + 1, 5, rfl, d1.upd (d1.neC nL) nLD, by omega, by decide, by decide, fun v H2 v0 v1 d2 fr2 => ?_⟩
      obtain ⟨m, hm⟩ := pick5 (a := -1) (b := 1) (c := 2) (d := -2) (e := -i - 1) v0 v1
      refine ixL (by rw [fr2 _ nLD]; exact updS) hm ⟨_, _, rfl, rfl, ?_⟩
      exact k _ _ (k1.trans ((Kp.new nL).trans (Kp.fr fr2))) (d2.le (by omega)) (.int _)
    | _ => exact iteF (odd X)
  by_cases hT : isTupD d = true
  · cases d with
    | tup ds =>
      cases a1 with
      | @tup p xs _ np hp hz hl ha =>
      have hall : ∀ y ∈ xs, Okd D B H1 y := all_of hl ha
      -- a tuple zs made of these and others
      have fin : ∀ (q : Addr) (zs : List V) (H' : Hp) (t' : Nat), Kp D H1 H' → q ≠ D → H' q = some (.tup zs) → zs.length ≤ B + 1 → (∀ y ∈ zs, y ∈ xs ∨ Okd D (B + 1) H' y) → Dk c D ns t' H' → t' ≤ t + 3 * (n + 1) → Q (.ref q) H' := by
        intro q zs H' t' kk nq hq hz' hy dd ht'
        refine k _ _ (k1.trans kk) (dd.le ht') (.tup nq hq hz' fun y my => ?_)
        rcases hy y my with h | h
        · exact (hall y h).mono kk (by omega)
        · exact h
      have body : 0 < n → t_l_bent_one K n { nx := fun _ H' => Q .non H', rt := Q } [some (.ref D), some (.ref p), some (.int (((n + 1 : Nat) : Int) - 1)), some (.int road), none] H1 := by
        intro hn
        -- list(thing)
        refine ⟨_, rfl, rfl, _, rfl, ite2 (fun e => ?_) (fun e => ?_)⟩
        · refine ⟨_, rfl, p, xs, rfl, .inr (sqT hp), fun l nl => ?_⟩
          have nlD := d1.neD nl
          exact k _ _ (k1.trans (Kp.new nl)) ((d1.upd (d1.neC nl) nlD).le (by omega)) (.lst nlD updS (by omega) fun y hy => (hall y hy).mono (Kp.new nl) (by omega))
        -- an empty one
        refine ⟨_, rfl, lenT hp ⟨rfl, _, rfl, ite2 (fun e => ?_) (fun e => ?_)⟩⟩
        · refine ⟨_, rfl, c, D, ns, t + 1, rfl, d1, by omega, fun y H2 k2 d2 oy => ⟨by show (1 : Nat) ≤ sizeLine; decide, fun q nq => ?_⟩⟩
          have nqD := d2.neD nq
          refine fin q [y] _ (t + 1 + 1) (k2.trans (Kp.new nq)) nqD updS (by show (1 : Nat) ≤ B + 1; omega) (fun z hz => .inr ?_) (d2.upd (d2.neC nq) nqD) (by omega)
          rw [List.mem_singleton.mp hz]
          exact oy.mono (Kp.new nq) (by omega)
        have hpos : 0 < xs.length := by
          cases xs with
          | nil => exact absurd rfl e
          | cons _ _ => exact Nat.succ_pos _
        -- a place
        refine ⟨_, rfl, _, rfl, lenT hp ⟨c, D, ns, t + 1, _, rfl, d1, by omega, by omega, small100 (by omega), fun v H2 v0 v1 d2 fr2 => ?_⟩⟩
        obtain ⟨m, rfl⟩ := Int.eq_ofNat_of_zero_le v0
        have hm : m < xs.length := by omega
        have k2 : Kp D H1 H2 := Kp.fr fr2
        have hp2 : H2 p = some (.tup xs) := k2 _ _ hp np
        have hD2 := dk_some d2
        have s1 : ∀ d : Nat, HT.sIx xs.length d (some ((m : Int) + 1)) = min (m + 1) xs.length := fun d => HT.sIx_nat xs.length d (m + 1)
        have s2 : ∀ d : Nat, HT.sIx xs.length d (some ((m : Int) + 2)) = min (m + 2) xs.length := fun d => HT.sIx_nat xs.length d (m + 2)
        have s0 : ∀ d : Nat, HT.sIx xs.length d (some (m : Int)) = min m xs.length := fun d => HT.sIx_nat xs.length d m
        have sn : ∀ d : Nat, HT.sIx xs.length d none = d := fun d => HT.sIx_none xs.length d
        have dkp : ∀ {H' : Hp}, Same H2 H' → Dk c D ns (t + 1 + 1) H' := fun s => d2.kp s
        -- one left out
        refine ⟨_, rfl, rfl, _, rfl, ite2 (fun e => ?_) (fun e => ?_)⟩
        · refine ⟨_, rfl, _, rfl, _, rfl, sl_step np hD2 hp2 fun q zs H3 w3 nq hq hlq mq => ?_⟩
          refine ⟨_, rfl, _, rfl, _, _, rfl, rfl, _, rfl, sl_stepN np (ne_same w3 hD2) (w3 _ _ hp2) fun q2 zs2 H4 w4 nq2 hq2 hlq2 mq2 => ?_⟩
          rw [s0, sn] at hlq
          rw [s1, sn] at hlq2
          refine cat_step nq nq2 (ne_same (w3.trans w4) hD2) (w4 _ _ hq) hq2 (by omega) fun r H5 w5 nr hr => ?_
          refine fin r _ H5 _ (k2.trans (Kp.of_same ((w3.trans w4).trans w5))) nr hr ?_ (fun y hy => .inl ?_) (dkp ((w3.trans w4).trans w5)) (by omega)
          · rw [List.length_append]
            omega
          · rcases List.mem_append.mp hy with hy | hy
            · exact mq y hy
            · exact mq2 y hy
        -- one twice
        refine ⟨_, rfl, rfl, _, rfl, ite2 (fun e => ?_) (fun e => ?_)⟩
        · refine ⟨_, rfl, _, rfl, _, _, rfl, rfl, _, rfl, sl_step np hD2 hp2 fun q zs H3 w3 nq hq hlq mq => ?_⟩
          refine ⟨_, rfl, _, rfl, _, rfl, sl_stepN np (ne_same w3 hD2) (w3 _ _ hp2) fun q2 zs2 H4 w4 nq2 hq2 hlq2 mq2 => ?_⟩
          rw [s1, sn] at hlq
          rw [s0, sn] at hlq2
          refine cat_step nq nq2 (ne_same (w3.trans w4) hD2) (w4 _ _ hq) hq2 (by omega) fun r H5 w5 nr hr => ?_
          refine fin r _ H5 _ (k2.trans (Kp.of_same ((w3.trans w4).trans w5))) nr hr ?_ (fun y hy => .inl ?_) (dkp ((w3.trans w4).trans w5)) (by omega)
          · rw [List.length_append]
            omega
          · rcases List.mem_append.mp hy with hy | hy
            · exact mq y hy
            · exact mq2 y hy
        have hat : atI xs (m : Int) = some xs[m] := atI_nat (List.getElem?_eq_getElem hm)
        -- two turned about
        refine ⟨_, rfl, rfl, _, rfl, ite2 (fun e => ?_) (fun e => ?_)⟩
        · refine ⟨_, rfl, _, rfl, _, rfl, sl_step np hD2 hp2 fun q zs H3 w3 nq hq hlq mq => ?_⟩
          refine ⟨_, rfl, _, rfl, _, _, rfl, rfl, _, rfl, _, rfl, _, _, rfl, rfl, _, rfl, sl_step np (ne_same w3 hD2) (w3 _ _ hp2) fun q2 zs2 H4 w4 nq2 hq2 hlq2 mq2 => ?_⟩
          rw [s0, sn] at hlq
          rw [s1, s2] at hlq2
          refine cat_step nq nq2 (ne_same (w3.trans w4) hD2) (w4 _ _ hq) hq2 (by omega) fun r H5 w5 nr hr => ?_
          have w25 := (w3.trans w4).trans w5
          refine ⟨_, rfl, _, rfl, ixT (w25 _ _ hp2) hat ⟨by show (1 : Nat) ≤ sizeLine; decide, fun u nu => ?_⟩⟩
          have w6 := samNw (o := .tup [xs[m]]) nu
          have nuD := ne_new (ne_same w25 hD2) nu
          have w26 := w25.trans w6
          refine cat_step nr nuD (ne_same w26 hD2) (w6 _ _ hr) updS (by rw [List.length_append]; show _ + 1 ≤ _; omega) fun v H7 w7 nv hv => ?_
          have w27 := w26.trans w7
          refine ⟨_, rfl, _, rfl, _, _, rfl, rfl, _, rfl, sl_stepN np (ne_same w27 hD2) (w27 _ _ hp2) fun q3 zs3 H8 w8 nq3 hq3 hlq3 mq3 => ?_⟩
          rw [s2, sn] at hlq3
          have w28 := w27.trans w8
          refine cat_step nv nq3 (ne_same w28 hD2) (w8 _ _ hv) hq3 (by rw [List.length_append, List.length_append]; show _ + 1 + _ ≤ _; omega) fun g H9 w9 ng hg => ?_
          refine fin g _ H9 _ (k2.trans (Kp.of_same (w28.trans w9))) ng hg ?_ (fun y hy => .inl ?_) (dkp (w28.trans w9)) (by omega)
          · rw [List.length_append, List.length_append, List.length_append]
            show _ + 1 + _ ≤ _
            omega
          · rcases List.mem_append.mp hy with hy | hy
            · rcases List.mem_append.mp hy with hy | hy
              · rcases List.mem_append.mp hy with hy | hy
                · exact mq y hy
                · exact mq2 y hy
              · rw [List.mem_singleton.mp hy]
                exact List.getElem_mem hm
            · exact mq3 y hy
        -- one bent
        refine ⟨_, rfl, _, rfl, _, rfl, sl_step np hD2 hp2 fun q zs H3 w3 nq hq hlq mq => ?_⟩
        rw [s0, sn] at hlq
        have k3 : Kp D H1 H3 := k2.trans (Kp.of_same w3)
        refine ⟨_, rfl, _, rfl, _, rfl, ixT (w3 _ _ hp2) hat ⟨_, rfl, _, _, rfl, rfl, c, D, ns, t + 1 + 1, xs[m], B, ?_, hn, dkp w3, by omega, (hall _ (List.getElem_mem hm)).mono k3 (Nat.le_refl _), hB0, hB1, fun y H4 k4 d4 oy => ?_⟩⟩
        · show [V.ref D, xs[m], V.int (((n + 1 : Nat) : Int) - 1 - 1)] = _
          rw [show (((n + 1 : Nat) : Int) - 1 - 1) = (n : Int) - 1 by omega]
        have hD4 := dk_some d4
        refine ⟨by show (1 : Nat) ≤ sizeLine; decide, fun u nu => ?_⟩
        have nuD := d4.neD nu
        have w5 := samNw (o := .tup [y]) nu
        refine cat_step nq nuD (ne_same w5 hD4) (w5 _ _ (k4 _ _ hq nq)) updS (by show _ + 1 ≤ _; omega) fun v H6 w6 nv hv => ?_
        have w46 := w5.trans w6
        refine ⟨_, rfl, _, rfl, _, _, rfl, rfl, _, rfl, sl_stepN np (ne_same w46 hD4) (w46 _ _ (k4 _ _ (w3 _ _ hp2) np)) fun q3 zs3 H7 w7 nq3 hq3 hlq3 mq3 => ?_⟩
        rw [s1, sn] at hlq3
        have w47 := w46.trans w7
        refine cat_step nv nq3 (ne_same w47 hD4) (w7 _ _ hv) hq3 (by rw [List.length_append]; show _ + 1 + _ ≤ _; omega) fun g H8 w8 ng hg => ?_
        have w48 := w47.trans w8
        refine fin g _ H8 _ (k3.trans (k4.trans (Kp.of_same w48))) ng hg ?_ (fun y' hy => ?_) (d4.kp w48) (by omega)
        · rw [List.length_append, List.length_append]
          show _ + 1 + _ ≤ _
          omega
        · rcases List.mem_append.mp hy with hy | hy
          · rcases List.mem_append.mp hy with hy | hy
            · exact .inl (mq y' hy)
            · rw [List.mem_singleton.mp hy]
              exact .inr (oy.mono (Kp.of_same w48) (Nat.le_refl _))
          · exact .inl (mq3 y' hy)
      refine ⟨_, rfl, rfl, _, rfl, ite2 (fun e => fst _) (fun e => ?_)⟩
      refine ⟨_, rfl, rfl, _, rfl, ite2 (fun e2 => fst _) (fun e2 => ?_)⟩
      refine ⟨_, rfl, isiTup at1 ⟨_, rfl, ?_⟩⟩
      refine body ?_
      cases n with
      | zero => exact absurd rfl e
      | succ n => exact Nat.succ_pos _
    | _ => cases hT
  · have hF : isTupD d = false := Bool.eq_false_iff.mpr hT
    refine ⟨_, rfl, rfl, _, rfl, ite2 (fun e => fst _) (fun e => ?_)⟩
    refine ⟨_, rfl, rfl, _, rfl, ite2 (fun e => fst _) (fun e => ?_)⟩
    refine ⟨_, rfl, isiTup at1 ⟨_, rfl, ?_⟩⟩
    rw [hF]
    exact fst _
end Fw

set_option Elab.async false
set_option linter.all false
set_option maxRecDepth 100000
set_option maxHeartbeats 4000000
namespace Fw
open PySem L2 RZ RT
/-! ### what the law finds a shape -/
def risG : Int → List Dt → Bool
  | _, [] => true
  | l, .int i :: r => decide (l < i) && risG i r
  | _, _ :: _ => false
def risD : Dt → Bool
  | .tup ds => risG (-1) ds
  | _ => false
def lkG (ns : List Int) : Int → Int → List Dt → Bool
  | _, _, [] => true
  | a, b, .tup [.int u, .int v] :: r => (ns.contains u && (ns.contains v && decide (v < u))) && (decide (a < u ∨ (a = u ∧ b < v)) && lkG ns u v r)
  | _, _, _ :: _ => false
def lawShape : Dt → Bool
  | .tup [.tup vs, .tup ls] => risG (-1) vs && (decide (vs.length ≤ 400) && (decide (ls.length ≤ 2000) && lkG (ints1 vs) (-1) (-1) ls))
  | _ => false
theorem risG_no {l : Int} {d : Dt} {r : List Dt} (h : isIntD d = false) : risG l (d :: r) = false := by
  cases d with
  | int i => cases h
  | _ => rfl
theorem risG_int (l i : Int) (r : List Dt) : risG l (.int i :: r) = (decide (l < i) && risG i r) := rfl
theorem adj_two {α : Type} (r : α → α → Bool) (x y : α) (t : List α) : adj r (x :: y :: t) = (r x y && adj r (y :: t)) := rfl
theorem risG_adj : ∀ (l : Int) (ds : List Dt), risG l ds = (ds.all isIntD && adj ltD (.int l :: ds))
  | l, [] => rfl
  | l, .int i :: r => by
    rw [risG_int, risG_adj i r, adj_two, List.all_cons]
    show (decide (l < i) && (r.all isIntD && adj ltD (.int i :: r))) = ((true && r.all isIntD) && (decide (l < i) && adj ltD (.int i :: r)))
    cases decide (l < i) <;> cases r.all isIntD <;> rfl
  | l, .non :: r => rfl
  | l, .bl _ :: r => rfl
  | l, .str _ :: r => rfl
  | l, .tup _ :: r => rfl
  | l, .lst _ :: r => rfl
  | l, .dct :: r => rfl
theorem risG_gt : ∀ {l : Int} {ds : List Dt}, risG l ds = true → ∀ d ∈ ds, ∃ i, d = .int i ∧ l < i
  | l, [], _, d, hd => by cases hd
  | l, .int i :: r, h, d, hd => by
    rw [risG_int, Bool.and_eq_true] at h
    have h1 : l < i := of_decide_eq_true h.1
    rcases List.mem_cons.mp hd with rfl | hd
    · exact ⟨i, rfl, h1⟩
    · obtain ⟨j, e, hj⟩ := risG_gt h.2 d hd
      exact ⟨j, e, by omega⟩
  | l, .non :: r, h, _, _ => by cases h
  | l, .bl _ :: r, h, _, _ => by cases h
  | l, .str _ :: r, h, _, _ => by cases h
  | l, .tup _ :: r, h, _, _ => by cases h
  | l, .lst _ :: r, h, _, _ => by cases h
  | l, .dct :: r, h, _, _ => by cases h
theorem risG_ver (ds : List Dt) : risG (-1) ds = ((ds.all isIntD && adj ltD ds) && ds.all geZ) := by
  cases e : risG (-1) ds with
  | true =>
    have gt := risG_gt e
    rw [risG_adj, Bool.and_eq_true] at e
    have a2 : ds.all geZ = true := List.all_eq_true.mpr fun d hd => by
      obtain ⟨i, rfl, hi⟩ := gt d hd
      exact decide_eq_true (by omega)
    rw [e.1, a2]
    cases ds with
    | nil => rfl
    | cons x r =>
      rw [adj_two, Bool.and_eq_true] at e
      rw [e.2.2]
      rfl
  | false =>
    symm
    refine Bool.eq_false_iff.mpr fun q => ?_
    rw [Bool.and_eq_true, Bool.and_eq_true] at q
    rw [risG_adj, q.1.1, Bool.true_and] at e
    cases ds with
    | nil => cases e
    | cons x r =>
      rw [adj_two, q.1.2, Bool.and_true] at e
      have h1 := List.all_eq_true.mp q.2 x List.mem_cons_self
      cases x with
      | int i =>
        have h2 : 0 ≤ i := of_decide_eq_true h1
        have h3 : ¬ (-1 < i) := of_decide_eq_false e
        omega
      | _ => cases h1
theorem lex2 (a b u v : Int) : HT.lexLt [a, b] [u, v] = decide (a < u ∨ (a = u ∧ b < v)) := by
  rw [HT.lexLt_cons]
  by_cases h : a = u
  · rw [if_pos h, HT.lexLt_cons]
    by_cases h2 : b = v
    · rw [if_pos h2]
      show false = _
      exact (decide_eq_false (by omega)).symm
    · rw [if_neg h2]
      by_cases h3 : b < v
      · rw [decide_eq_true h3]
        exact (decide_eq_true (.inr ⟨h, h3⟩)).symm
      · rw [decide_eq_false h3]
        exact (decide_eq_false (by omega)).symm
  · rw [if_neg h]
    by_cases h3 : a < u
    · rw [decide_eq_true h3]
      exact (decide_eq_true (.inl h3)).symm
    · rw [decide_eq_false h3]
      exact (decide_eq_false (by omega)).symm
theorem lkG_two (ns : List Int) (a b u v : Int) (r : List Dt) : lkG ns a b (.tup [.int u, .int v] :: r) = ((ns.contains u && (ns.contains v && decide (v < u))) && (decide (a < u ∨ (a = u ∧ b < v)) && lkG ns u v r)) := rfl
def isPrD : Dt → Bool
  | .tup [.int _, .int _] => true
  | _ => false
theorem isPrD_inv {d : Dt} (h : isPrD d = true) : ∃ u v, d = .tup [.int u, .int v] := by
  unfold isPrD at h
  split at h
  · exact ⟨_, _, rfl⟩
  · cases h
theorem lkG_no {ns : List Int} {a b : Int} {d : Dt} {r : List Dt} (h : isPrD d = false) : lkG ns a b (d :: r) = false := by
  unfold lkG
  split
  · rename_i q
    cases q
  · rename_i q
    cases q
    cases h
  · rfl
theorem isLinkD_no {ns : List Int} {d : Dt} (h : isPrD d = false) : isLinkD ns d = false := by
  unfold isLinkD
  split
  · cases h
  · rfl
theorem lkG_adj (ns : List Int) : ∀ (a b : Int) (ls : List Dt), lkG ns a b ls = (ls.all (isLinkD ns) && adj ltD (.tup [.int a, .int b] :: ls))
  | a, b, [] => rfl
  | a, b, d :: r => by
    cases hp : isPrD d with
    | true =>
      obtain ⟨u, v, rfl⟩ := isPrD_inv hp
      rw [lkG_two, lkG_adj ns u v r, adj_two, List.all_cons, isLinkD_two]
      show _ = ((_ && _) && (HT.lexLt [a, b] [u, v] && _))
      rw [lex2]
      generalize (ns.contains u && (ns.contains v && decide (v < u))) = p
      generalize decide (a < u ∨ (a = u ∧ b < v)) = q
      generalize r.all (isLinkD ns) = s
      cases p <;> cases q <;> cases s <;> rfl
    | false => rw [lkG_no hp, List.all_cons, isLinkD_no hp]; rfl
theorem lkG_links {ns : List Int} (h0 : ∀ n ∈ ns, 0 ≤ n) (ls : List Dt) : lkG ns (-1) (-1) ls = (ls.all (isLinkD ns) && adj ltD ls) := by
  rw [lkG_adj]
  cases ls with
  | nil => rfl
  | cons d r =>
    rw [adj_two, List.all_cons]
    cases hp : isPrD d with
    | true =>
      obtain ⟨u, v, rfl⟩ := isPrD_inv hp
      cases hl : isLinkD ns (.tup [.int u, .int v]) with
      | true =>
        rw [isLinkD_two, Bool.and_eq_true] at hl
        have hu : 0 ≤ u := h0 u (List.contains_iff_mem.mp hl.1)
        have e : ltD (.tup [.int (-1), .int (-1)]) (.tup [.int u, .int v]) = true := by
          show HT.lexLt [-1, -1] [u, v] = true
          rw [lex2]
          exact decide_eq_true (.inl (by omega))
        rw [e]
        rfl
      | false => rfl
    | false => rw [isLinkD_no hp]; rfl
theorem lawShape_eq (d : Dt) : lawShape d = isShapeD d := by
  unfold lawShape
  split
  · rename_i vs ls
    show _ = (areVersionsD (.tup vs) && areLinksD (ints1 vs) (.tup ls))
    rw [areVersionsD_tup, areLinksD_tup]
    cases e : risG (-1) vs with
    | true =>
      have gt := risG_gt e
      rw [risG_ver, Bool.and_eq_true] at e
      rw [e.1, e.2, Bool.true_and, Bool.true_and, Bool.and_true]
      rw [lkG_links]
      intro n hn
      have e2 := allInt (Bool.and_eq_true_iff.mp e.1).1
      have hm : Dt.int n ∈ vs := by
        rw [e2]
        exact List.mem_map.mpr ⟨n, hn, rfl⟩
      obtain ⟨i, q, hi⟩ := gt _ hm
      cases q
      omega
    | false =>
      rw [risG_ver] at e
      generalize (vs.all isIntD && adj ltD vs) = p at e ⊢
      generalize vs.all geZ = q at e ⊢
      generalize decide (vs.length ≤ 400) = z
      cases p with
      | false => rfl
      | true =>
        cases q with
        | true => cases e
        | false => cases z <;> rfl
  · rename_i h
    symm
    unfold isShapeD
    split
    · rename_i v l
      cases v with
      | tup vs =>
        cases l with
        | tup ls => exact absurd rfl (h vs ls)
        | _ => exact Bool.and_false _
      | _ => rfl
    · rfl
/-! ### _law_rising, _law_is_shape, check -/
def sp_l_rising (_ : PySem.W.Frag) : Sp := fun vs H Q _ => ∃ (x : V) (d : Dt), vs = [x] ∧ At H x d ∧ Q (.bl (risD d)) H
def sp_l_is_shape (_ : PySem.W.Frag) : Sp := fun vs H Q _ => ∃ (x : V) (d : Dt), vs = [x] ∧ At H x d ∧ ∀ H', Same H H' → Q (.bl (lawShape d)) H'
def sp_check (K : PySem.W.Frag) : Sp := fun vs H Q E => ∃ (x : V) (d : Dt), vs = [x] ∧ At H x d ∧ (isShapeD d = true → ∀ H', Same H H' → Q (.bl true) H') ∧ (isShapeD d = false → ∀ H', Same H H' → E (.ref (He.ga K "NoShape")) none H')
def tRaise (E : XK) (c : Value) : TS := fun _ _ H => E c none H
abbrev N_l_rising : List Str := ["_law_thing", "_law_last", "_law_one"]
def t_l_rising_loop (K : PySem.W.Frag) : TS := (tSeq (tAsg (tUn rNegI (tC (.int 1))) (gName 1))
    (tSeq (tFor (iTup K (tVar 0)) (gName 2) (tSeq (tIfS (tOr (tNot (tB (tCall (sp_l_intA K) [] E0 (tCons (tVar 2) tNil)))) (tTest (tOp rLeI (tVar 2) (tVar 1)))) (tRet (tC (.bl false))) tNext)
    (tAsg (tVar 2) (gName 1))))
    (tRet (tC (.bl true)))))
def t_l_rising (K : PySem.W.Frag) : TS := (tSeq (tIfS (tNot (tB (tCB (rIsi K) (tCons (tVar 0) (tCons (tC (.ty "tuple")) tNil))))) (tRet (tC (.bl false))) tNext)
    (t_l_rising_loop K))
abbrev N_l_is_shape : List Str := ["_law_thing", "_law_stands", "_law_one", "_law_last", "_law_two"]
def t_l_is_shape_e (K : PySem.W.Frag) : TS := (tSeq (tFor (iTup K (tOp (rIx K) (tVar 0) (tC (.int 1)))) (gName 4) (tSeq (tIfS (tOr (tNot (tB (tCB (rIsi K) (tCons (tVar 4) (tCons (tC (.ty "tuple")) tNil))))) (tOr (tTest (tOp rNe (tCB (fLen K) (tCons (tVar 4) tNil)) (tC (.int 2)))) (tOr (tNot (tB (tCall (sp_l_intA K) [] E0 (tCons (tOp (rIx K) (tVar 4) (tC (.int 0))) tNil)))) (tNot (tB (tCall (sp_l_intA K) [] E0 (tCons (tOp (rIx K) (tVar 4) (tC (.int 1))) tNil))))))) (tRet (tC (.bl false))) tNext)
    (tSeq (tIfS (tOr (tB (tDNotIn (tOp (rIx K) (tVar 4) (tC (.int 0))) (tVar 1))) (tOr (tB (tDNotIn (tOp (rIx K) (tVar 4) (tC (.int 1))) (tVar 1))) (tTest (tOp rGeI (tOp (rIx K) (tVar 4) (tC (.int 1))) (tOp (rIx K) (tVar 4) (tC (.int 0))))))) (tRet (tC (.bl false))) tNext)
    (tSeq (tIfS (tOr (tTest (tOp rLtI (tOp (rIx K) (tVar 4) (tC (.int 0))) (tOp (rIx K) (tVar 3) (tC (.int 0))))) (tAnd (tTest (tOp rEq (tOp (rIx K) (tVar 4) (tC (.int 0))) (tOp (rIx K) (tVar 3) (tC (.int 0))))) (tTest (tOp rLeI (tOp (rIx K) (tVar 4) (tC (.int 1))) (tOp (rIx K) (tVar 3) (tC (.int 1))))))) (tRet (tC (.bl false))) tNext)
    (tAsg (tVar 4) (gName 3))))))
    (tRet (tC (.bl true))))
def t_l_is_shape_d (K : PySem.W.Frag) : TS := (tSeq (tAsg (tTup (tCons (tUn rNegI (tC (.int 1))) (tCons (tUn rNegI (tC (.int 1))) tNil))) (gName 3))
    (t_l_is_shape_e K))
def t_l_is_shape_c (K : PySem.W.Frag) : TS := (tSeq (tAsg tDNewK (gName 1))
    (tSeq (tFor (iTup K (tOp (rIx K) (tVar 0) (tC (.int 0)))) (gName 2) (sDPut (tVar 1) (tVar 2) (tC (.bl true))))
    (t_l_is_shape_d K)))
def t_l_is_shape_b (K : PySem.W.Frag) : TS := (tSeq (tIfS (tOr (tNot (tB (tCall (sp_l_rising K) [] E0 (tCons (tOp (rIx K) (tVar 0) (tC (.int 0))) tNil)))) (tOr (tTest (tOp rGtI (tCB (fLen K) (tCons (tOp (rIx K) (tVar 0) (tC (.int 0))) tNil)) (tC (.int 400)))) (tOr (tNot (tB (tCB (rIsi K) (tCons (tOp (rIx K) (tVar 0) (tC (.int 1))) (tCons (tC (.ty "tuple")) tNil))))) (tTest (tOp rGtI (tCB (fLen K) (tCons (tOp (rIx K) (tVar 0) (tC (.int 1))) tNil)) (tC (.int 2000))))))) (tRet (tC (.bl false))) tNext)
    (t_l_is_shape_c K))
def t_l_is_shape (K : PySem.W.Frag) : TS := (tSeq (tIfS (tOr (tNot (tB (tCB (rIsi K) (tCons (tVar 0) (tCons (tC (.ty "tuple")) tNil))))) (tTest (tOp rNe (tCB (fLen K) (tCons (tVar 0) tNil)) (tC (.int 2))))) (tRet (tC (.bl false))) tNext)
    (t_l_is_shape_b K))
abbrev N_check : List Str := ["thing"]
def t_check (K : PySem.W.Frag) (E : XK) : TS := (tSeq (tIfS (tOr (tNot (tB (tCall (sp_is_pair K) [] E0 (tCons (tVar 0) tNil)))) (tOr (tNot (tB (tCall (sp_are_versions K) [] E0 (tCons (tOp (rIx K) (tVar 0) (tC (.int 0))) tNil)))) (tNot (tB (tCall (sp_are_links K) [] E0 (tCons (tOp (rIx K) (tVar 0) (tC (.int 1))) (tCons (tOp (rIx K) (tVar 0) (tC (.int 0))) tNil))))))) (tRaise E (.ref (He.ga K "NoShape"))) tNext)
    (tRet (tC (.bl true))))
section
variable {K : PySem.W.Frag} {vs : List V} {H : Hp} {Q : VK} {E : XK}
theorem len_l_rising (h : sp_l_rising K vs H Q E) : vs.length = 1 := by
  obtain ⟨_, _, rfl, _⟩ := h
  rfl
theorem len_l_is_shape (h : sp_l_is_shape K vs H Q E) : vs.length = 1 := by
  obtain ⟨_, _, rfl, _⟩ := h
  rfl
theorem len_check (h : sp_check K vs H Q E) : vs.length = 1 := by
  obtain ⟨_, _, rfl, _⟩ := h
  rfl
theorem drop_at {α : Type} {l : List α} {i : Nat} {x : α} (h : l[i]? = some x) : l.drop i = x :: l.drop (i + 1) := by
  obtain ⟨hi, e⟩ := List.getElem?_eq_some_iff.mp h
  rw [← e]
  exact (List.getElem_cons_drop hi).symm
theorem pure_l_rising (h : sp_l_rising K vs H Q E) : t_l_rising K { nx := fun _ H' => Q .non H', rt := Q } (start N_l_rising vs) H := by
  obtain ⟨x, d, rfl, a, k⟩ := h
  refine ⟨_, rfl, isiTup a ⟨_, rfl, ?_⟩⟩
  cases a with
  | @tup p xs ds hp hz hl ha =>
    have k : Q (.bl (risG (-1) ds)) H := k
    refine ⟨_, rfl, ?_⟩
    refine ⟨_, rfl, p, rfl, ⟨_, sqT hp⟩, ?_⟩
    refine for_tup (K := K) (a := p) (xs := xs) (fun i σ H' => H' = H ∧ ∃ l z2, σ = [some (.ref p), some (.int l), z2] ∧ risG (-1) ds = risG l (ds.drop i)) ⟨rfl, -1, none, rfl, rfl⟩ (fun i σ H' _ ⟨e, _⟩ => by rw [e]; exact sqT hp) ?_ ?_
    · rintro i y σ H' hy ⟨rfl, l, z2, rfl, e⟩
      have hi : i < ds.length := by
        rw [← hl]
        exact (List.getElem?_eq_some_iff.mp hy).1
      have hd := List.getElem?_eq_getElem hi
      have ay := ha i y _ hy hd
      rw [drop_at hd] at e
      refine ⟨_, rfl, y, ds[i], rfl, ay, _, rfl, ?_⟩
      cases hI : isIntD ds[i] with
      | false =>
        rw [risG_no hI] at e
        rw [e] at k
        exact k
      | true =>
        obtain ⟨j, ej⟩ : ∃ j, ds[i] = .int j := by
          cases q : ds[i] with
          | int j => exact ⟨j, rfl⟩
          | _ => rw [q] at hI; cases hI
        rw [ej] at ay e
        have ey := ay.int_inv
        subst ey
        refine ⟨_, rfl, _, rfl, _, _, rfl, rfl, _, rfl, ite2 (fun e2 => ?_) (fun e2 => ?_)⟩
        · have : ¬ l < j := by
            have : j ≤ l := of_decide_eq_true e2
            omega
          rw [risG_int, decide_eq_false this, Bool.false_and] at e
          rw [e] at k
          exact k
        · have : l < j := by
            have : ¬ j ≤ l := fun z => e2 (decide_eq_true z)
            omega
          rw [risG_int, decide_eq_true this, Bool.true_and] at e
          exact ⟨_, rfl, rfl, j, _, rfl, e⟩
    · rintro σ H' ⟨rfl, l, z2, rfl, e⟩
      rw [hl, List.drop_length] at e
      rw [e] at k
      exact k
  | _ => exact k
theorem shapeD_two (e f : Dt) : isShapeD (.tup [e, f]) = (areVersionsD e && areLinksD (match e with | .tup ds => ints1 ds | _ => []) f) := rfl
theorem pair_inv {d : Dt} (h : isPairD d = true) : ∃ e f, d = .tup [e, f] := by
  cases d with
  | tup ds =>
    have h2 : ds.length = 2 := of_decide_eq_true h
    match ds, h2 with
    | [e, f], _ => exact ⟨e, f, rfl⟩
  | _ => cases h
theorem shapeD_no {d : Dt} (h : ¬ isPairD d = true) : isShapeD d = false := by
  unfold isShapeD
  split
  · exact absurd rfl h
  · rfl
theorem pure_check (h : sp_check K vs H Q E) : t_check K E { nx := fun _ H' => Q .non H', rt := Q } (start N_check vs) H := by
  obtain ⟨x, d, rfl, a, ky, kn⟩ := h
  refine ⟨_, rfl, x, d, rfl, a, _, rfl, ?_⟩
  by_cases hp : isPairD d = true
  · rw [hp]
    obtain ⟨e, f, rfl⟩ := pair_inv hp
    obtain ⟨p, y, z, rfl, hpp, ay, az⟩ := a.pair_inv
    refine iteF ⟨_, rfl, ixT hpp rfl ⟨y, e, rfl, ay, fun H1 s1 => ⟨_, rfl, ?_⟩⟩⟩
    rw [shapeD_two] at ky kn
    cases hv : areVersionsD e with
    | true =>
      cases e with
      | tup ds =>
        have hi : ds.all isIntD = true := by
          rw [areVersionsD_tup, Bool.and_eq_true, Bool.and_eq_true] at hv
          exact hv.1.1
        have ay1 := ay.mono s1
        rw [allInt hi] at ay1
        refine iteF ⟨_, rfl, ixT (s1 _ _ hpp) rfl ⟨_, rfl, ixT (s1 _ _ hpp) rfl ⟨z, y, f, ints1 ds, rfl, az.mono s1, ay1, fun H2 s2 => ⟨_, rfl, ?_⟩⟩⟩⟩
        rw [hv, Bool.true_and] at ky kn
        cases hl : areLinksD (ints1 ds) f with
        | true => exact ky hl H2 (s1.trans s2)
        | false => exact kn hl H2 (s1.trans s2)
      | _ => cases hv
    | false =>
      rw [hv, Bool.false_and] at kn
      exact kn rfl H1 s1
  · have e := shapeD_no hp
    rw [Bool.eq_false_iff.mpr hp]
    exact kn e H (Same.refl H)
theorem law_no2 {d : Dt} (h : ¬ isPairD d = true) : lawShape d = false := (lawShape_eq d).trans (shapeD_no h)
theorem law_f1 {vs : List Dt} {f : Dt} (h : risG (-1) vs = false) : lawShape (.tup [.tup vs, f]) = false := by
  cases f with
  | tup ls =>
    show (risG (-1) vs && _) = false
    rw [h]
    rfl
  | _ => rfl
theorem law_f2 {vs : List Dt} {f : Dt} (h : ¬ vs.length ≤ 400) : lawShape (.tup [.tup vs, f]) = false := by
  cases f with
  | tup ls =>
    show (risG (-1) vs && (decide (vs.length ≤ 400) && _)) = false
    rw [decide_eq_false h, Bool.false_and, Bool.and_false]
  | _ => rfl
theorem law_f3 {vs ls : List Dt} (h : ¬ ls.length ≤ 2000) : lawShape (.tup [.tup vs, .tup ls]) = false := by
  show (risG (-1) vs && (decide (vs.length ≤ 400) && (decide (ls.length ≤ 2000) && _))) = false
  rw [decide_eq_false h, Bool.false_and, Bool.and_false, Bool.and_false]
theorem law_t {vs ls : List Dt} (h1 : risG (-1) vs = true) (h2 : vs.length ≤ 400) (h3 : ls.length ≤ 2000) : lawShape (.tup [.tup vs, .tup ls]) = lkG (ints1 vs) (-1) (-1) ls := by
  show (risG (-1) vs && (decide (vs.length ≤ 400) && (decide (ls.length ≤ 2000) && _))) = _
  rw [decide_eq_true h2, decide_eq_true h3, h1]
  rfl
theorem pure_l_is_shape (h : sp_l_is_shape K vs H Q E) : t_l_is_shape K { nx := fun _ H' => Q .non H', rt := Q } (start N_l_is_shape vs) H := by
  obtain ⟨x, d, rfl, a, k⟩ := h
  have k0 := k H (Same.refl H)
  refine ⟨_, rfl, isiTup a ⟨_, rfl, ?_⟩⟩
  cases d with
  | tup ds =>
    obtain ⟨p, xs, rfl, hpx, hxl, _, _⟩ := a.tup_inv
    refine ⟨_, rfl, lenT hpx ⟨rfl, _, rfl, ?_⟩⟩
    by_cases h2 : ds.length = 2
    · obtain ⟨e, f, rfl⟩ : ∃ e f, ds = [e, f] := by
        match ds, h2 with
        | [e, f], _ => exact ⟨e, f, rfl⟩
      obtain ⟨p', y, z, ep, hpp, ay, az⟩ := a.pair_inv
      cases ep
      rw [hpp] at hpx
      cases hpx
      refine iteF ?_
      -- the versions
      refine ⟨_, rfl, ixT hpp rfl ⟨y, e, rfl, ay, _, rfl, ?_⟩⟩
      cases e with
      | tup vs =>
        obtain ⟨pv, vx, rfl, hpv, hvl, hvz, _⟩ := ay.tup_inv
        show if (!risG (-1) vs) = true then _ else _
        cases hr : risG (-1) vs with
        | false =>
          rw [law_f1 hr] at k0
          exact k0
        | true =>
          refine iteF ⟨_, rfl, ixT hpp rfl (lenT hpv ⟨_, _, rfl, rfl, _, rfl, ite2 (fun e4 => ?_) (fun e4 => ?_)⟩)⟩
          · have : ¬ vs.length ≤ 400 := fun z => by
              have : (400 : Int) < vx.length := of_decide_eq_true e4
              omega
            rw [law_f2 this] at k0
            exact k0
          have hv4 : vs.length ≤ 400 := by
            have : ¬ (400 : Int) < vx.length := fun z => e4 (decide_eq_true z)
            omega
          refine ⟨_, rfl, ixT hpp rfl (isiTup az ⟨_, rfl, ?_⟩)⟩
          cases f with
          | tup ls =>
            obtain ⟨pl, lx, rfl, hpl, hll, hlz, hla⟩ := az.tup_inv
            refine iteF ⟨_, rfl, ixT hpp rfl (lenT hpl ⟨_, _, rfl, rfl, _, rfl, ite2 (fun e5 => ?_) (fun e5 => ?_)⟩)⟩
            · have : ¬ ls.length ≤ 2000 := fun z => by
                have : (2000 : Int) < lx.length := of_decide_eq_true e5
                omega
              rw [law_f3 this] at k0
              exact k0
            have hl2 : ls.length ≤ 2000 := by
              have : ¬ (2000 : Int) < lx.length := fun z => e5 (decide_eq_true z)
              omega
            have k : ∀ H', Same H H' → Q (.bl (lkG (ints1 vs) (-1) (-1) ls)) H' := fun H' s => by
              have := k H' s
              rw [law_t hr hv4 hl2] at this
              exact this
            have hvi : vs.all isIntD = true := by
              rw [risG_ver, Bool.and_eq_true, Bool.and_eq_true] at hr
              exact hr.1.1
            have ev := allInt hvi
            have hns : (ints1 vs).length = vs.length := by
              have := congrArg List.length ev
              rw [List.length_map] at this
              exact this.symm
            have hpv : H pv = some (.tup ((ints1 vs).map V.int)) := by
              rw [ev] at ay
              obtain ⟨q, eq, hq, _⟩ := ay.to_ints
              cases eq
              exact hq
            -- stands
            show t_l_is_shape_c K { nx := fun _ H' => Q .non H', rt := Q } [some (.ref p), none, none, none, none] H
            intro S nS
            have up : ∀ kvs, Same H (upd H S (.dK kvs)) := fun kvs b o e => updN (ne_of_none e nS) e
            refine ⟨_, rfl, ixT (up _ _ _ hpp) rfl ⟨pv, rfl, ⟨_, sqT (up _ _ _ hpv)⟩, ?_⟩⟩
            refine for_tup (K := K) (a := pv) (xs := (ints1 vs).map V.int) (fun i σ H' => H' = upd H S (.dK (setOf ((ints1 vs).take i))) ∧ ∃ z2, σ = [some (.ref p), some (.ref S), z2, none, none]) ⟨by rw [List.take_zero]; rfl, none, rfl⟩ (fun i σ H' _ ⟨e, _⟩ => by rw [e]; exact sqT (up _ _ _ hpv)) ?_ ?_
            · rintro i y σ H' hy ⟨rfl, z2, rfl⟩
              rw [List.getElem?_map] at hy
              cases en : (ints1 vs)[i]? with
              | none => rw [en] at hy; cases hy
              | some n =>
                rw [en] at hy
                cases Option.some.inj hy
                have hlen : (setOf ((ints1 vs).take i)).length < sizeLine := by
                  refine Nat.lt_of_le_of_lt (Nat.le_trans (setOf_length _) ?_ : _ ≤ 100000) (by decide)
                  rw [List.length_take]
                  omega
                refine ⟨_, rfl, _, rfl, S, _, rfl, DPut.k (k := Sum.inl n) updS hlen, ?_, _, rfl⟩
                rw [upd_upd, take_snoc en, setOf_snoc]
            · rintro σ H' ⟨rfl, z2, rfl⟩
              rw [List.length_map, List.take_length]
              -- the links
              refine ⟨_, rfl, _, rfl, (by show (2 : Nat) ≤ sizeLine; decide), fun T nT => ?_⟩
              have s1 : Same (upd H S (.dK (setOf (ints1 vs)))) (upd (upd H S (.dK (setOf (ints1 vs)))) T (.tup [.int (-1), .int (-1)])) := samNw nT
              have sT : Same H (upd (upd H S (.dK (setOf (ints1 vs)))) T (.tup [.int (-1), .int (-1)])) := (up _).trans s1
              have nTS : S ≠ T := fun z => by rw [← z, updS] at nT; cases nT
              have hS := s1 S _ updS
              have hT2 : upd (upd H S (.dK (setOf (ints1 vs)))) T (.tup [.int (-1), .int (-1)]) T = some (.tup [.int (-1), .int (-1)]) := updS
              show t_l_is_shape_e K { nx := fun _ H' => Q .non H', rt := Q } [some (.ref p), some (.ref S), z2, some (.ref T), none] (upd (upd H S (.dK (setOf (ints1 vs)))) T (.tup [.int (-1), .int (-1)]))
              generalize upd (upd H S (.dK (setOf (ints1 vs)))) T (.tup [.int (-1), .int (-1)]) = H2 at *
              have kk := k H2 sT
              refine ⟨_, rfl, ixT (sT _ _ hpp) rfl ⟨pl, rfl, ⟨_, sqT (sT _ _ hpl)⟩, ?_⟩⟩
              refine for_tup (K := K) (a := pl) (xs := lx) (fun i σ H' => H' = H2 ∧ ∃ q a b z4, σ = [some (.ref p), some (.ref S), z2, some (.ref q), z4] ∧ H2 q = some (.tup [.int a, .int b]) ∧ lkG (ints1 vs) (-1) (-1) ls = lkG (ints1 vs) a b (ls.drop i)) ⟨rfl, T, -1, -1, none, rfl, hT2, rfl⟩ (fun i σ H' _ ⟨e, _⟩ => by rw [e]; exact sqT (sT _ _ hpl)) ?_ ?_
              · rintro i y σ H' hy ⟨rfl, q, a, b, z4, rfl, hq, e⟩
                have hi : i < ls.length := by
                  rw [← hll]
                  exact (List.getElem?_eq_some_iff.mp hy).1
                have hd := List.getElem?_eq_getElem hi
                have ay := (hla i y _ hy hd).mono sT
                rw [drop_at hd] at e
                generalize ls[i] = g at ay e
                have bad : lkG (ints1 vs) a b (g :: ls.drop (i + 1)) = false → Q (.bl false) H' := fun q => by
                  rw [e, q] at kk
                  exact kk
                refine ⟨_, rfl, isiTup ay ⟨_, rfl, ?_⟩⟩
                cases g with
                | tup gs =>
                  obtain ⟨pg, gx, rfl, hpg, hgl, _, _⟩ := ay.tup_inv
                  refine ⟨_, rfl, lenT hpg ⟨rfl, _, rfl, ?_⟩⟩
                  by_cases h2 : gs.length = 2
                  · obtain ⟨e1, f1, rfl⟩ : ∃ e f, gs = [e, f] := by
                      match gs, h2 with
                      | [e, f], _ => exact ⟨e, f, rfl⟩
                    obtain ⟨p', y1, z1, ep, hpg2, ay1, az1⟩ := ay.pair_inv
                    cases ep
                    rw [hpg2] at hpg
                    cases hpg
                    have hpg := hpg2
                    refine iteF ⟨_, rfl, ixT hpg rfl ⟨y1, e1, rfl, ay1, _, rfl, ?_⟩⟩
                    cases hI : isIntD e1 with
                    | false =>
                      refine bad (lkG_no ?_)
                      cases e1 with
                      | int _ => cases hI
                      | _ => rfl
                    | true =>
                      refine iteF ⟨_, rfl, ixT hpg rfl ⟨z1, f1, rfl, az1, _, rfl, ?_⟩⟩
                      cases hJ : isIntD f1 with
                      | false =>
                        refine bad (lkG_no ?_)
                        cases e1 with
                        | int _ =>
                          cases f1 with
                          | int _ => cases hJ
                          | _ => rfl
                        | _ => cases hI
                      | true =>
                        cases e1 with
                        | int u =>
                          cases f1 with
                          | int v =>
                            have q1 := ay1.int_inv
                            have q2 := az1.int_inv
                            subst q1 q2
                            rw [lkG_two] at bad e
                            refine iteF ?_
                            refine ⟨_, rfl, ixT hpg rfl ⟨_, rfl, S, _, rfl, DGet.k (k := Sum.inl u) hS, _, rfl, ?_⟩⟩
                            rw [setOf_has]
                            cases hu : (ints1 vs).contains u with
                            | false => exact bad (by rw [hu, Bool.false_and, Bool.false_and])
                            | true =>
                              refine iteF ⟨_, rfl, ixT hpg rfl ⟨_, rfl, S, _, rfl, DGet.k (k := Sum.inl v) hS, _, rfl, ?_⟩⟩
                              rw [setOf_has]
                              cases hv : (ints1 vs).contains v with
                              | false => exact bad (by rw [hv, Bool.false_and, Bool.and_false, Bool.false_and])
                              | true =>
                                rw [hu, hv, Bool.true_and, Bool.true_and] at bad e
                                refine iteF ⟨_, rfl, ixT hpg rfl ⟨_, rfl, ixT hpg rfl ⟨_, _, rfl, rfl, _, rfl, ite2 (fun e7 => ?_) (fun e7 => ?_)⟩⟩⟩
                                · have : ¬ v < u := by
                                    have : u ≤ v := of_decide_eq_true e7
                                    omega
                                  exact bad (by rw [decide_eq_false this, Bool.false_and])
                                · have hvu : v < u := by
                                    have : ¬ u ≤ v := fun z => e7 (decide_eq_true z)
                                    omega
                                  rw [decide_eq_true hvu, Bool.true_and] at bad e
                                  have bad2 : ¬ (a < u ∨ (a = u ∧ b < v)) → Q (.bl false) H' := fun q => bad (by rw [decide_eq_false q, Bool.false_and])
                                  have good : (a < u ∨ (a = u ∧ b < v)) → lkG (ints1 vs) (-1) (-1) ls = lkG (ints1 vs) u v (ls.drop (i + 1)) := fun q => by
                                    rw [e, decide_eq_true q, Bool.true_and]
                                  refine ⟨_, rfl, ixT hpg rfl ⟨_, rfl, ixT hq rfl ⟨_, _, rfl, rfl, _, rfl, ite2 (fun e8 => ?_) (fun e8 => ?_)⟩⟩⟩
                                  · have : u < a := of_decide_eq_true e8
                                    exact bad2 (by omega)
                                  · have hua : ¬ u < a := fun z => e8 (decide_eq_true z)
                                    refine ⟨_, rfl, ixT hpg rfl ⟨_, rfl, ixT hq rfl ⟨rfl, _, rfl, ite2 (fun e9 => ?_) (fun e9 => ?_)⟩⟩⟩
                                    · have eua : u = a := V.int.inj (of_decide_eq_true e9)
                                      refine ⟨_, rfl, ixT hpg rfl ⟨_, rfl, ixT hq rfl ⟨_, _, rfl, rfl, _, rfl, ite2 (fun e10 => ?_) (fun e10 => ?_)⟩⟩⟩
                                      · have : v ≤ b := of_decide_eq_true e10
                                        exact bad2 (by omega)
                                      · have : ¬ v ≤ b := fun z => e10 (decide_eq_true z)
                                        exact ⟨_, rfl, rfl, pg, u, v, _, rfl, hpg, good (by omega)⟩
                                    · have : ¬ u = a := fun z => e9 (decide_eq_true (by rw [z]))
                                      exact ⟨_, rfl, rfl, pg, u, v, _, rfl, hpg, good (by omega)⟩
                          | _ => cases hJ
                        | _ => cases hI
                  · refine ite2 (fun _ => bad (lkG_no ?_)) (fun e => absurd ?_ e)
                    · match gs, h2 with
                      | [], _ => rfl
                      | [x], _ => cases x <;> rfl
                      | [x, y], h2 => exact absurd rfl h2
                      | x :: y :: w :: r, _ => cases x <;> first | rfl | (cases y <;> rfl)
                    · rw [Bool.not_eq_true', decide_eq_false_iff_not]
                      intro q
                      have := V.int.inj q
                      omega
                | _ => exact bad rfl
              · rintro σ H' ⟨rfl, q, a, b, z4, rfl, hq, e⟩
                rw [hll, List.drop_length] at e
                rw [e] at kk
                exact kk
          | _ => exact k0
      | _ => exact k0
    · rw [law_no2 (d := .tup ds) (fun q => h2 (of_decide_eq_true q))] at k0
      refine ite2 (fun _ => k0) (fun e => absurd ?_ e)
      rw [Bool.not_eq_true', decide_eq_false_iff_not]
      intro q
      have := V.int.inj q
      omega
  | _ => exact k0
end
end Fw

set_option Elab.async false
set_option linter.all false
set_option maxRecDepth 100000
set_option maxHeartbeats 4000000
namespace Fw
open PySem L2 RZ RT
/-! ### rises, of a tuple or a list -/
abbrev rSlE (K : PySem.W.Frag) : V → Option Int → Option Int → Hp → VK → Prop := fun x lo hi H Q => rSlA K x lo hi H Q ∨ rSlL K x lo hi H Q
def ltI (i j : Int) : Bool := decide (i < j)
def sp_risesL (_ : PySem.W.Frag) : Sp := fun vs H Q _ => ∃ (p : Addr) (ns : List Int), vs = [.ref p] ∧ H p = some (.lst (ns.map V.int)) ∧ ns.length ≤ 100000 ∧ ∀ H', Same H H' → Q (.bl (adj ltI ns)) H'
def sp_risesB (K : PySem.W.Frag) : Sp := fun vs H Q E => sp_rises K vs H Q E ∨ sp_risesL K vs H Q E
def t_risesB (K : PySem.W.Frag) : TS := (tRet (tCB (rAll K) (tCons (tLc (iZipA K (tCons (tVar 0) (tCons (tSl (rSlE K) (tVar 0) (tPart (tC (.int 1))) tNoPart) tNil))) (gTup K 2 (gCons (gName 1) (gCons (gName 2) gNil))) tYes (tOp (fLtA K) (tVar 1) (tVar 2)) [1, 2]) tNil)))
theorem lc_zipL {K : PySem.W.Frag} {a b : Addr} {xs ys : List V} {g : TG} {tt : TT} {te : TE} {vs : List Nat} {σ : L2.St} {H1 : Hp} {D : Addr} {Qd : Hp → Prop} (n : Nat) (hn : n = min xs.length ys.length) (Pv : Nat → Hp → Prop) (h0 : Pv 0 (upd H1 D (.lst [])))
    (hl : ∀ i H, Pv i H → SqL K H a xs ∧ SqL K H b ys)
    (hs : ∀ (i : Nat) (x y : V) (T : Addr) (H : Hp), xs[i]? = some x → ys[i]? = some y → Pv i H → H T = none → g (.ref T) (wipe σ vs) (upd H T (.tup [x, y])) fun σ2 H2 => wipe σ2 vs = wipe σ vs ∧ tt σ2 H2 fun b H3 =>
      if b = true then te σ2 H3 fun y H4 => ∃ acc, H4 D = some (.lst acc) ∧ acc.length < sizeLine ∧ Pv (i + 1) (upd H4 D (.lst (acc ++ [y]))) else Pv (i + 1) H3) (hd : ∀ H, Pv n H → Qd H) :
    ∃ W : Nat → Nat → Hp → Prop, (∃ m, W 0 m (upd H1 D (.lst []))) ∧ ∀ i m H, W i m H →
      ((Itz K a b).stop i H ∧ Qd H) ∨ ((Itz K a b).go i H ∧ ∃ Nx : Hp → Prop, (∀ H', Nx H' → ∃ m', m' < m ∧ W (i + 1) m' H') ∧ ∀ x H', (Itz K a b).yld i H x H' → g x (wipe σ vs) H' fun σ2 H2 => wipe σ2 vs = wipe σ vs ∧ tt σ2 H2 fun b H3 =>
        if b = true then te σ2 H3 fun y H4 => ∃ acc, H4 D = some (.lst acc) ∧ acc.length < sizeLine ∧ Nx (upd H4 D (.lst (acc ++ [y]))) else Nx H3) := by
  refine ⟨fun i m H => m = n - i ∧ i ≤ n ∧ Pv i H, ⟨n, by simp, Nat.zero_le _, h0⟩, ?_⟩
  rintro i m H ⟨rfl, hi, p⟩
  obtain ⟨qa, qb⟩ := hl i H p
  by_cases hlt : i < n
  · have l1 : i < xs.length := by omega
    have l2 : i < ys.length := by omega
    refine .inr ⟨⟨xs, ys, xs[i], ys[i], qa, qb, List.getElem?_eq_getElem l1, List.getElem?_eq_getElem l2⟩, Pv (i + 1), fun H' p' => ⟨n - (i + 1), by omega, rfl, hlt, p'⟩, fun x H' y => ?_⟩
    obtain ⟨T, x1, x2, rfl, nT, rfl, f1, f2⟩ := y
    exact hs i x1 x2 T H (f1 _ qa) (f2 _ qb) p nT
  · have e : i = n := by omega
    subst e
    exact .inl ⟨⟨xs, ys, qa, qb, by omega⟩, hd H p⟩
section
variable {K : PySem.W.Frag} {vs : List V} {H : Hp} {Q : VK} {E : XK}
theorem Same.updF2 {H H' : Hp} {q : Addr} {o : HO} (s : Same H H') (n : H q = none) : Same H (upd H' q o) := fun b u e => updN (ne_of_none e n) (s b u e)
theorem len_risesB (h : sp_risesB K vs H Q E) : vs.length = 1 := by
  rcases h with h | h
  · exact len_rises h
  · obtain ⟨_, _, rfl, _⟩ := h
    rfl
theorem pure_risesB1 (h : sp_rises K vs H Q E) : t_risesB K { nx := fun _ H' => Q .non H', rt := Q } (start N_rises vs) H := by
  obtain ⟨p, xs, bs, rfl, hp, hz, hb, hc, k⟩ := h
  -- zip(things, things[1:]), the second one at any place
  have main : ∀ (q : Addr) (H1 : Hp), Same H H1 → H1 q = some (.tup (xs.drop 1)) → ∀ D, H1 D = none → ∃ W : Nat → Nat → Hp → Prop, (∃ m, W 0 m (upd H1 D (.lst []))) ∧ ∀ i m H, W i m H →
      ((ItzT K p q).stop i H ∧ tNil (start N_rises [V.ref p]) H fun ys H2 => rAll K (.ref D :: ys) H2 Q) ∨ ((ItzT K p q).go i H ∧ ∃ Nx : Hp → Prop, (∀ H', Nx H' → ∃ m', m' < m ∧ W (i + 1) m' H') ∧ ∀ x H', (ItzT K p q).yld i H x H' → gTup K 2 (gCons (gName 1) (gCons (gName 2) gNil)) x (wipe (start N_rises [V.ref p]) [1, 2]) H' fun σ2 H2 => wipe σ2 [1, 2] = wipe (start N_rises [V.ref p]) [1, 2] ∧ tYes σ2 H2 fun b H3 =>
        if b = true then tOp (fLtA K) (tVar 1) (tVar 2) σ2 H3 fun y H4 => ∃ acc, H4 D = some (.lst acc) ∧ acc.length < sizeLine ∧ Nx (upd H4 D (.lst (acc ++ [y]))) else Nx H3) := by
    intro q H1 sm hq D nD
    refine lc_zipT (K := K) (a := p) (b := q) (xs := xs) (ys := xs.drop 1) (xs.length - 1) (by rw [List.length_drop]; omega) (fun i H2 => Same H1 H2 ∧ H2 D = some (.lst ((bs.take i).map V.bl))) ⟨fun b o e => updN (ne_of_none e nD) e, updS⟩ (fun i H2 s2 => ⟨sqT (s2.1 _ _ (sm _ _ hp)), sqT (s2.1 _ _ hq)⟩) (fun i x y T H2 hx hy s2 nT => ?_) (fun H2 s2 => ?_)
    · rw [List.getElem?_drop, Nat.add_comm] at hy
      have hi : i < bs.length := by
        have := (List.getElem?_eq_some_iff.mp hy).1
        omega
      have nTD : D ≠ T := ne_of_none s2.2 nT
      have sT : Same H1 (upd H2 T (.tup [x, y])) := fun b o e => updN (ne_of_none (s2.1 _ _ e) nT) (s2.1 _ _ e)
      refine ⟨T, [x, y], rfl, sqT updS, rfl, x, [y], rfl, y, [], rfl, rfl, rfl, ?_⟩
      refine ⟨_, rfl, _, rfl, Cmp.run ((hc i x y bs[i] hx hy (List.getElem?_eq_getElem hi)).mono (sm.trans sT)) ⟨(bs.take i).map V.bl, updN nTD s2.2, ?_, ?_⟩⟩
      · refine Nat.lt_of_le_of_lt (?_ : _ ≤ 100000) (by decide)
        rw [List.length_map, List.length_take]
        omega
      · refine ⟨fun b o e => updN (ne_of_none e nD) (sT _ _ e), ?_⟩
        rw [updS, List.take_add_one, List.getElem?_eq_getElem hi, List.map_append]
        rfl
    · refine ⟨D, bs, rfl, sqL ?_, k _ (sm.trans s2.1)⟩
      rw [s2.2, List.take_of_length_le (by omega)]
  refine ⟨_, rfl, _, rfl, _, rfl, .inl ⟨p, xs, rfl, sqT hp, fun e => ?_, fun e q nq => ?_⟩⟩
  · have e0 : xs.drop 1 = xs := by
      have e1 := e.1
      rw [show HT.sIx xs.length 0 (some 1) = min 1 xs.length from HT.sIx_nat xs.length 0 1] at e1
      have : xs.length = 0 := by omega
      rw [List.eq_nil_of_length_eq_zero this]
      rfl
    exact ⟨p, p, xs, xs, rfl, .inr ⟨sqT hp, sqT hp, main p H (Same.refl H) (by rw [e0]; exact hp)⟩⟩
  · have s1 : Same H (upd H q (.tup (cutV xs (some 1) none))) := fun b o e => updN (ne_of_none e nq) e
    refine ⟨p, q, xs, _, rfl, .inr ⟨sqT (s1 _ _ hp), sqT updS, main q _ s1 ?_⟩⟩
    rw [updS, cut1]
theorem pure_risesB2 (h : sp_risesL K vs H Q E) : t_risesB K { nx := fun _ H' => Q .non H', rt := Q } (start N_rises vs) H := by
  obtain ⟨p, ns, rfl, hp, hz, k⟩ := h
  refine ⟨_, rfl, _, rfl, _, rfl, .inr ⟨p, _, rfl, sqL hp, fun q nq => ?_⟩⟩
  rw [cut1]
  have s1 : Same H (upd H q (.lst ((ns.map V.int).drop 1))) := samNew nq
  refine ⟨p, q, ns.map V.int, _, rfl, .inl ⟨sqL (s1 _ _ hp), sqL updS, fun D nD => ?_⟩⟩
  have hq1 : upd H q (.lst ((ns.map V.int).drop 1)) q = some (.lst ((ns.map V.int).drop 1)) := updS
  have hp1 := s1 _ _ hp
  generalize upd H q (.lst ((ns.map V.int).drop 1)) = H1 at s1 hq1 hp1 nD ⊢
  have npD : p ≠ D := ne_of_none hp1 nD
  have nqD : q ≠ D := ne_of_none hq1 nD
  refine lc_zipL (K := K) (a := p) (b := q) (xs := ns.map V.int) (ys := (ns.map V.int).drop 1) (ns.length - 1) (by rw [List.length_drop, List.length_map]; omega) (fun i H2 => Same H1 H2 ∧ H2 D = some (.lst (((adjL ltI ns).take i).map V.bl))) ⟨samNew nD, updS⟩ (fun i H2 s2 => ⟨sqL (s2.1 _ _ hp1), sqL (s2.1 _ _ hq1)⟩) (fun i x y T H2 hx hy s2 nT => ?_) (fun H2 s2 => ?_)
  · rw [List.getElem?_drop, Nat.add_comm] at hy
    rw [List.getElem?_map] at hx hy
    cases e1 : ns[i]? with
    | none => rw [e1] at hx; cases hx
    | some a =>
      cases e2 : ns[i + 1]? with
      | none => rw [e2] at hy; cases hy
      | some b =>
        rw [e1] at hx
        rw [e2] at hy
        cases Option.some.inj hx
        cases Option.some.inj hy
        have hl := adjL_length ltI ns
        have hi : i < (adjL ltI ns).length := by
          have := (List.getElem?_eq_some_iff.mp e2).1
          omega
        have eb := adjL_get e1 e2 (List.getElem?_eq_getElem hi)
        have nTD : D ≠ T := ne_of_none s2.2 nT
        have sT : Same H1 (upd H2 T (.tup [.int a, .int b])) := fun b o e => updN (ne_of_none (s2.1 _ _ e) nT) (s2.1 _ _ e)
        refine ⟨T, [.int a, .int b], rfl, sqT updS, rfl, .int a, [.int b], rfl, .int b, [], rfl, rfl, rfl, ?_⟩
        refine ⟨_, rfl, _, rfl, .inl ⟨_, _, rfl, rfl, ((adjL ltI ns).take i).map V.bl, updN nTD s2.2, ?_, ?_⟩⟩
        · refine Nat.lt_of_le_of_lt (?_ : _ ≤ 100000) (by decide)
          rw [List.length_map, List.length_take]
          omega
        · refine ⟨fun b o e => updN (ne_of_none e nD) (sT _ _ e), ?_⟩
          rw [updS, List.take_add_one, List.getElem?_eq_getElem hi, List.map_append]
          rw [eb]
          rfl
  · refine ⟨D, adjL ltI ns, rfl, sqL ?_, k _ (s1.trans s2.1)⟩
    rw [s2.2, List.take_of_length_le (by rw [adjL_length]; omega)]
theorem pure_risesB (h : sp_risesB K vs H Q E) : t_risesB K { nx := fun _ H' => Q .non H', rt := Q } (start N_rises vs) H := h.elim pure_risesB1 pure_risesB2
end
/-! ### the form of a cover -/
def neD : Dt → Bool
  | .tup (_ :: _) => true
  | _ => false
def hdI : Dt → Int
  | .tup (.int i :: _) => i
  | _ => 0
def covFormD : Dt → Bool
  | .tup [.tup dcs, da] => isRisingD da && ((dcs.all fun c => isRisingD c && neD c) && adj ltI (dcs.map hdI))
  | _ => false
def sp_is_cover_form (_ : PySem.W.Frag) : Sp := fun vs H Q _ => ∃ (x : V) (d : Dt), vs = [x] ∧ At H x d ∧ ∀ H', Same H H' → Q (.bl (covFormD d)) H'
abbrev N_is_cover_form : List Str := ["thing", "chain"]
def t_is_cover_form_rise (K : PySem.W.Frag) : TS := (tRet (tCall (sp_risesL K) [] E0 (tCons (tLc (iTup K (tOp (rIx K) (tVar 0) (tC (.int 0)))) (gName 1) tYes (tOp (rIx K) (tVar 1) (tC (.int 0))) [1]) tNil)))
def t_is_cover_form_all (K : PySem.W.Frag) : TS := (tSeq (tIfS (tNot (tB (tCB (rAll K) (tCons (tLc (iTup K (tOp (rIx K) (tVar 0) (tC (.int 0)))) (gName 1) tYes (tAndV (tCall (sp_is_rising K) [] E0 (tCons (tVar 1) tNil)) (tOp rGtI (tCB (fLen K) (tCons (tVar 1) tNil)) (tC (.int 0)))) [1]) tNil)))) (tRet (tC (.bl false))) tNext)
    (t_is_cover_form_rise K))
def t_is_cover_form (K : PySem.W.Frag) : TS := (tSeq (tIfS (tOr (tNot (tB (tCall (sp_is_pair K) [] E0 (tCons (tVar 0) tNil)))) (tOr (tNot (tB (tCB (rIsi K) (tCons (tOp (rIx K) (tVar 0) (tC (.int 0))) (tCons (tC (.ty "tuple")) tNil))))) (tNot (tB (tCall (sp_is_rising K) [] E0 (tCons (tOp (rIx K) (tVar 0) (tC (.int 1))) tNil)))))) (tRet (tC (.bl false))) tNext)
    (t_is_cover_form_all K))
section
variable {K : PySem.W.Frag} {vs : List V} {H : Hp} {Q : VK} {E : XK}
theorem len_is_cover_form (h : sp_is_cover_form K vs H Q E) : vs.length = 1 := by
  obtain ⟨_, _, rfl, _⟩ := h
  rfl
theorem isRising_no {d : Dt} (h : isTupD d = false) : isRisingD d = false := by
  cases d with
  | tup _ => cases h
  | _ => rfl
theorem pure_is_cover_form (h : sp_is_cover_form K vs H Q E) : t_is_cover_form K { nx := fun _ H' => Q .non H', rt := Q } (start N_is_cover_form vs) H := by
  obtain ⟨x, d, rfl, a, k⟩ := h
  refine ⟨_, rfl, x, d, rfl, a, _, rfl, ?_⟩
  cases hp : isPairD d with
  | false =>
    have e : covFormD d = false := by
      unfold covFormD
      split
      · cases hp
      · rfl
    rw [e] at k
    exact iteT (k _ (Same.refl H))
  | true =>
  refine iteF ?_
  obtain ⟨d0, da, rfl⟩ : ∃ d0 da, d = .tup [d0, da] := by
    cases d with
    | tup ds =>
      have : ds.length = 2 := of_decide_eq_true hp
      match ds, this with
      | [d0, da], _ => exact ⟨d0, da, rfl⟩
    | _ => cases hp
  obtain ⟨p, y, z, rfl, hpp, ay, az⟩ := a.pair_inv
  refine ⟨_, rfl, ixT hpp rfl (isiTup ay ⟨_, rfl, ?_⟩)⟩
  cases hy : isTupD d0 with
  | false =>
    have e : covFormD (.tup [d0, da]) = false := by
      cases d0 with
      | tup _ => cases hy
      | _ => rfl
    rw [e] at k
    exact iteT (k _ (Same.refl H))
  | true =>
  refine iteF ?_
  obtain ⟨dcs, rfl⟩ : ∃ dcs, d0 = .tup dcs := by
    cases d0 with
    | tup dcs => exact ⟨dcs, rfl⟩
    | _ => cases hy
  refine ⟨_, rfl, ixT hpp rfl ⟨z, da, rfl, az, fun H1 s1 => ⟨_, rfl, ?_⟩⟩⟩
  cases hr : isRisingD da with
  | false =>
    have e : covFormD (.tup [.tup dcs, da]) = false := by
      show (isRisingD da && _) = false
      rw [hr, Bool.false_and]
    rw [e] at k
    exact iteT (k _ s1)
  | true =>
  refine iteF ?_
  have ek : covFormD (.tup [.tup dcs, da]) = ((dcs.all fun c => isRisingD c && neD c) && adj ltI (dcs.map hdI)) := by
    show (isRisingD da && _) = _
    rw [hr, Bool.true_and]
  rw [ek] at k
  show t_is_cover_form_all K { nx := fun _ H' => Q .non H', rt := Q } [some (.ref p), none] H1
  obtain ⟨q, xs, rfl, hq, hl, hz, ha⟩ := ay.tup_inv
  have hpp1 := s1 _ _ hpp
  have hq1 := s1 _ _ hq
  refine ⟨_, rfl, ixT hpp1 rfl ⟨q, rfl, ⟨_, sqT hq1⟩, fun D nD => ?_⟩⟩
  refine lc_tup (K := K) (a := q) (xs := xs) (fun i H' => Same H1 H' ∧ H' D = some (.lst (((dcs.take i).map fun c => isRisingD c && neD c).map V.bl))) ⟨samNew nD, updS⟩ (fun i H' _ e => sqT (e.1 _ _ hq1)) (fun i x H2 hx ⟨s2, hD2⟩ => ?_) (fun H2 ⟨s2, hD2⟩ => ?_)
  · have hi : i < dcs.length := by
      rw [← hl]
      exact (List.getElem?_eq_some_iff.mp hx).1
    have ed := List.getElem?_eq_getElem hi
    generalize dcs[i] = dc at ed
    have ax : At H2 x dc := (ha i x dc hx ed).mono (s1.trans s2)
    rw [take_snoc ed, List.map_append, List.map_append]
    have few : (((dcs.take i).map fun c => isRisingD c && neD c).map V.bl).length < sizeLine := by
      rw [List.length_map, List.length_map, List.length_take]
      exact Nat.lt_of_le_of_lt (show min i dcs.length ≤ 100000 by omega) (by decide)
    refine ⟨rfl, ⟨_, rfl, x, dc, rfl, ax, fun H3 s3 => ⟨_, rfl, ?_⟩⟩⟩
    cases hc : isRisingD dc with
    | false =>
      refine iteF ⟨_, s3 _ _ hD2, few, Same.updF2 (s2.trans s3) nD, ?_⟩
      rw [updS]
      show _ = some (HO.lst (_ ++ [V.bl (isRisingD dc && neD dc)]))
      rw [hc, Bool.false_and]
    | true =>
      obtain ⟨ds2, rfl⟩ : ∃ ds2, dc = .tup ds2 := by
        cases dc with
        | tup ds2 => exact ⟨ds2, rfl⟩
        | _ => cases hc
      obtain ⟨p2, xs2, rfl, hp2, hl2, _, _⟩ := (ax.mono s3).tup_inv
      refine iteT ⟨_, rfl, lenT hp2 ⟨_, _, rfl, rfl, _, s3 _ _ hD2, few, Same.updF2 (s2.trans s3) nD, ?_⟩⟩
      rw [updS]
      show some (HO.lst (_ ++ [V.bl (decide ((0 : Int) < (xs2.length : Nat)))])) = some (HO.lst (_ ++ [V.bl (isRisingD (.tup ds2) && neD (.tup ds2))]))
      rw [hc, Bool.true_and, hl2]
      cases ds2 with
      | nil => rfl
      | cons y r =>
        have e : decide ((0 : Int) < (((y :: r).length : Nat) : Int)) = true := decide_eq_true (by rw [List.length_cons]; omega)
        rw [e]
        rfl
  · rw [hl, List.take_length] at hD2
    refine ⟨D, _, rfl, sqL hD2, _, rfl, ?_⟩
    rw [map_all]
    cases hall : (dcs.all fun c => isRisingD c && neD c) with
    | false =>
      rw [hall, Bool.false_and] at k
      exact iteT (k _ (s1.trans s2))
    | true =>
    rw [hall, Bool.true_and] at k
    refine iteF ?_
    show t_is_cover_form_rise K { nx := fun _ H' => Q .non H', rt := Q } [some (.ref p), none] H2
    have s12 := s1.trans s2
    refine ⟨_, rfl, ixT (s12 _ _ hpp) rfl ⟨q, rfl, ⟨_, sqT (s12 _ _ hq)⟩, fun F nF => ?_⟩⟩
    refine lc_mapT (K := K) (a := q) (xs := xs) (ys := (dcs.map hdI).map V.int) (fun acc => sqT (samNew nF _ _ (s12 _ _ hq))) (by rw [List.length_map, List.length_map, hl]) (by omega) (fun i x y acc R hx hy r => ?_) ?_ mono_yes mono_gName
    · have hi : i < dcs.length := by
        rw [← hl]
        exact (List.getElem?_eq_some_iff.mp hx).1
      have ed := List.getElem?_eq_getElem hi
      have hm := List.getElem_mem hi
      generalize dcs[i] = dc at ed hm
      rw [List.getElem?_map, List.getElem?_map, ed] at hy
      cases Option.some.inj hy
      have ax : At (upd H2 F (.lst acc)) x dc := ((ha i x dc hx ed).mono s12).mono (samNew nF)
      have hc := List.all_eq_true.mp hall dc hm
      rw [Bool.and_eq_true] at hc
      obtain ⟨e, r2, rfl⟩ : ∃ e r2, dc = .tup (e :: r2) := by
        cases dc with
        | tup ds2 =>
          cases ds2 with
          | nil => cases hc.2
          | cons e r2 => exact ⟨e, r2, rfl⟩
        | _ => cases hc.1
      have hai : (e :: r2).all isIntD = true := by
        have := hc.1
        rw [isRisingD_tup, Bool.and_eq_true] at this
        exact this.1
      obtain ⟨j, rfl⟩ := mem_int hai e (List.mem_cons_self ..)
      obtain ⟨p2, xs2, rfl, hp2, hl2, _, ha2⟩ := ax.tup_inv
      cases xs2 with
      | nil => cases hl2
      | cons v vr =>
        have ev := (ha2 0 v (.int j) rfl rfl).int_inv
        subst ev
        exact ⟨rfl, ⟨_, rfl, ixT hp2 (atI_nat (j := 0) rfl) r⟩⟩
    · exact ⟨F, dcs.map hdI, rfl, updS, by rw [List.length_map]; omega, fun H3 s3 => k _ (s12.trans ((samNew nF).trans s3))⟩
end
end Fw

set_option Elab.async false
set_option linter.all false
set_option maxRecDepth 100000
set_option maxHeartbeats 4000000
namespace Fw
open PySem L2 RZ RT
/-- any walk, any body -/
theorem walk_any {J : It} {n : Nat} {G : Hp → Prop} {Y : Nat → Hp → V → Hp → Prop} (wk : Walk J n G Y) {B : (Hp → Prop) → V → Hp → Prop} {H0 : Hp} {Qd : Hp → Prop} (Pv : Nat → Hp → Prop) (h0 : Pv 0 H0) (hG : ∀ i H, i ≤ n → Pv i H → G H)
    (hs : ∀ i x H H', i < n → Pv i H → Y i H x H' → B (Pv (i + 1)) x H') (hd : ∀ H, Pv n H → Qd H) :
    ∃ W : Nat → Nat → Hp → Prop, (∃ m, W 0 m H0) ∧ ∀ i m H, W i m H → (J.stop i H ∧ Qd H) ∨ (J.go i H ∧ ∃ Nx : Hp → Prop, (∀ H', Nx H' → ∃ m', m' < m ∧ W (i + 1) m' H') ∧ ∀ x H', J.yld i H x H' → B Nx x H') := by
  refine ⟨fun i m H => i ≤ n ∧ Pv i H ∧ m + i = n, ⟨n, Nat.zero_le _, h0, rfl⟩, ?_⟩
  rintro i m H ⟨hi, p, hm⟩
  have q := hG i H hi p
  by_cases hlt : i < n
  · exact .inr ⟨wk.goes i H hlt q, Pv (i + 1), fun H' p' => ⟨m - 1, by omega, hlt, p', by omega⟩, fun x H' y => hs i x H H' hlt p (wk.yields i H x H' hlt q y)⟩
  · have e : i = n := by omega
    subst e
    exact .inl ⟨wk.stops H q, hd H p⟩
/-! ### a truth of what is so -/
noncomputable def bof (p : Prop) : Bool := @decide p (Classical.propDecidable p)
theorem bof_t {p : Prop} (h : p) : bof p = true := @decide_eq_true p (Classical.propDecidable p) h
theorem bof_f {p : Prop} (h : ¬ p) : bof p = false := @decide_eq_false p (Classical.propDecidable p) h
theorem bof_of {p : Prop} {b : Bool} (h : b = true ↔ p) : b = bof p := by
  by_cases q : p
  · rw [bof_t q, h.mpr q]
  · rw [bof_f q]
    cases e : b with
    | false => rfl
    | true => exact absurd (h.mp e) q
/-! ### covers as data -/
def chD (c : List Int) : Dt := .tup (c.map Dt.int)
def covDt (cs : List (List Int)) (ap : List Int) : Dt := .tup [.tup (cs.map chD), .tup (ap.map Dt.int)]
def CovD (ws : List Int) (ls : List (Int × Int)) (d : Dt) : Prop := ∃ cs ap, d = covDt cs ap ∧ CovOk ws ls cs ap
theorem ints_inj {xs ys : List Int} (h : xs.map Dt.int = ys.map Dt.int) : xs = ys := by
  have := congrArg ints1 h
  rw [ints1_map, ints1_map] at this
  exact this
theorem chs_inj : ∀ {xs ys : List (List Int)}, xs.map chD = ys.map chD → xs = ys
  | [], [], _ => rfl
  | [], _ :: _, h => by cases h
  | _ :: _, [], h => by cases h
  | x :: xs, y :: ys, h => by
    rw [List.map_cons, List.map_cons] at h
    injection h with h1 h2
    unfold chD at h1
    injection h1 with h1
    rw [ints_inj h1, chs_inj h2]
theorem cov_inj {cs cs' : List (List Int)} {ap ap' : List Int} (h : covDt cs ap = covDt cs' ap') : cs = cs' ∧ ap = ap' := by
  unfold covDt at h
  injection h with h
  injection h with h1 h2
  injection h1 with h1
  injection h2 with h2 _
  injection h2 with h2
  exact ⟨chs_inj h1, ints_inj h2⟩
theorem covD_iff {ws : List Int} {ls : List (Int × Int)} {cs : List (List Int)} {ap : List Int} : CovD ws ls (covDt cs ap) ↔ CovOk ws ls cs ap :=
  ⟨fun ⟨cs', ap', e, h⟩ => by obtain ⟨rfl, rfl⟩ := cov_inj e; exact h, fun h => ⟨cs, ap, rfl, h⟩⟩
theorem adj_pair : ∀ {ns : List Int}, adj ltI ns = true → ns.Pairwise (· < ·)
  | [], _ => .nil
  | [x], _ => List.pairwise_singleton _ _
  | x :: y :: t, h => by
    rw [adj_two, Bool.and_eq_true] at h
    have h1 : x < y := of_decide_eq_true h.1
    have ih := adj_pair (ns := y :: t) h.2
    refine List.pairwise_cons.mpr ⟨fun z hz => ?_, ih⟩
    rcases List.mem_cons.mp hz with rfl | hz
    · exact h1
    · have := (List.pairwise_cons.mp ih).1 z hz
      omega
theorem pair_adj {ns : List Int} (h : ns.Pairwise (· < ·)) : adj ltI ns = true := adj_of fun i x y hx hy => by
  obtain ⟨h1, e1⟩ := List.getElem?_eq_some_iff.mp hx
  obtain ⟨h2, e2⟩ := List.getElem?_eq_some_iff.mp hy
  have := List.pairwise_iff_getElem.mp h i (i + 1) h1 h2 (by omega)
  rw [e1, e2] at this
  exact decide_eq_true this
theorem adj_ints : ∀ ns : List Int, adj ltD (ns.map Dt.int) = adj ltI ns
  | [] => rfl
  | [_] => rfl
  | x :: y :: t => by
    have ih := adj_ints (y :: t)
    rw [List.map_cons, List.map_cons, adj_two, adj_two, ← List.map_cons, ih]
    rfl
theorem all_ints (ns : List Int) : (ns.map Dt.int).all isIntD = true := by
  rw [List.all_eq_true]
  intro d hd
  obtain ⟨i, _, rfl⟩ := List.mem_map.mp hd
  rfl
theorem rising_iff {ns : List Int} : isRisingD (chD ns) = true ↔ ns.Pairwise (· < ·) := by
  unfold chD
  rw [isRisingD_tup, all_ints, Bool.true_and, adj_ints]
  exact ⟨adj_pair, pair_adj⟩
theorem rising_inv {d : Dt} (h : isRisingD d = true) : ∃ ns, d = chD ns ∧ ns.Pairwise (· < ·) := by
  cases d with
  | tup ds =>
    have h0 := h
    rw [isRisingD_tup, Bool.and_eq_true] at h
    have e := allInt h.1
    refine ⟨ints1 ds, by unfold chD; rw [← e], rising_iff.mp ?_⟩
    unfold chD
    rw [← e]
    exact h0
  | _ => cases h
theorem chs_inv : ∀ {dcs : List Dt}, (dcs.all fun c => isRisingD c && neD c) = true → ∃ cs : List (List Int), dcs = cs.map chD ∧ ∀ c ∈ cs, c ≠ [] ∧ c.Pairwise (· < ·)
  | [], _ => ⟨[], rfl, fun c hc => by cases hc⟩
  | d :: ds, h => by
    rw [List.all_cons, Bool.and_eq_true, Bool.and_eq_true] at h
    obtain ⟨ns, rfl, hn⟩ := rising_inv h.1.1
    obtain ⟨cs, rfl, hc⟩ := chs_inv h.2
    refine ⟨ns :: cs, rfl, fun c hm => ?_⟩
    rcases List.mem_cons.mp hm with rfl | hm
    · refine ⟨fun e => ?_, hn⟩
      rw [e] at h
      cases h.1.2
    · exact hc c hm
theorem hd_ch {c : List Int} (h : c ≠ []) : hdI (chD c) = c.headD 0 := by
  cases c with
  | nil => exact absurd rfl h
  | cons x r => rfl
/-- what the form says -/
structure CovF (cs : List (List Int)) (ap : List Int) : Prop where
  ne : ∀ c ∈ cs, c ≠ []
  up : ∀ c ∈ cs, c.Pairwise (· < ·)
  api : ap.Pairwise (· < ·)
  fst : (cs.map fun c => c.headD 0).Pairwise (· < ·)
theorem heads_eq {cs : List (List Int)} (h : ∀ c ∈ cs, c ≠ []) : (cs.map chD).map hdI = cs.map fun c => c.headD 0 := by
  rw [List.map_map]
  exact List.map_congr_left fun c hc => hd_ch (h c hc)
theorem form_inv {d : Dt} (h : covFormD d = true) : ∃ cs ap, d = covDt cs ap ∧ CovF cs ap := by
  unfold covFormD at h
  split at h
  · rename_i dcs da
    rw [Bool.and_eq_true, Bool.and_eq_true] at h
    obtain ⟨ap, rfl, ha⟩ := rising_inv h.1
    obtain ⟨cs, rfl, hc⟩ := chs_inv h.2.1
    have ne : ∀ c ∈ cs, c ≠ [] := fun c hm => (hc c hm).1
    have h3 := h.2.2
    rw [heads_eq ne] at h3
    exact ⟨cs, ap, rfl, ne, fun c hm => (hc c hm).2, ha, adj_pair h3⟩
  · cases h
theorem form_of {cs : List (List Int)} {ap : List Int} (h : CovF cs ap) : covFormD (covDt cs ap) = true := by
  show (isRisingD (chD ap) && (((cs.map chD).all fun c => isRisingD c && neD c) && adj ltI ((cs.map chD).map hdI))) = true
  rw [rising_iff.mpr h.api, heads_eq h.ne, pair_adj h.fst, Bool.true_and, Bool.and_true, List.all_eq_true]
  intro d hd
  obtain ⟨c, hc, rfl⟩ := List.mem_map.mp hd
  rw [rising_iff.mpr (h.up c hc), Bool.true_and]
  have := h.ne c hc
  cases c with
  | nil => exact absurd rfl this
  | cons x r => rfl
theorem CovOk.form {ws : List Int} {ls : List (Int × Int)} {cs : List (List Int)} {ap : List Int} (h : CovOk ws ls cs ap) : CovF cs ap := by
  refine ⟨h.ne, h.up, h.api, ?_⟩
  rw [List.pairwise_map, List.pairwise_iff_getElem]
  intro i j hi hj hij
  have n1 := h.ne _ (List.getElem_mem hi)
  have n2 := h.ne _ (List.getElem_mem hj)
  refine h.fst i j _ _ _ _ hij (List.getElem?_eq_getElem hi) (List.getElem?_eq_getElem hj) ?_ ?_
  · cases e : cs[i] with
    | nil => exact absurd e n1
    | cons x r => rfl
  · cases e : cs[j] with
    | nil => exact absurd e n2
    | cons x r => rfl
section
variable {ws : List Int} {ls : List (Int × Int)} {cs : List (List Int)} {ap : List Int} {f : Int → List Int}
/-- the rest that the program looks at -/
structure CovR (ws : List Int) (cs : List (List Int)) (ap : List Int) (f : Int → List Int) : Prop where
  len : ap.length = cs.length
  pm : cs.flatten.Perm ws
  ch : ∀ c ∈ cs, adj (fun x y => (f y).contains x) c = true
  apm : ∀ x ∈ ap, x ∈ ws
  apd : ∀ x ∈ ap, ∀ y ∈ ap, y ∉ f x
theorem strict_iff (g : Good ws ls) (hf : ∀ w u, u ∈ f w ↔ ∃ l, (w, l) ∈ ls ∧ Dn ls l u) {w u : Int} : u ∈ f w ↔ Dn ls w u ∧ w ≠ u := by
  rw [hf]
  refine ⟨fun ⟨l, h1, h2⟩ => ⟨.step h1 h2, fun e => ?_⟩, fun ⟨h, ne⟩ => ?_⟩
  · have a : l < w := (g.mem _ h1).2.2
    have b := Dn.le g h2
    omega
  · cases h with
    | refl => exact absurd rfl ne
    | step h1 h2 => exact ⟨_, h1, h2⟩
theorem covR_iff (g : Good ws ls) (hf : ∀ w u, u ∈ f w ↔ ∃ l, (w, l) ∈ ls ∧ Dn ls l u) (F : CovF cs ap) : CovR ws cs ap f ↔ CovOk ws ls cs ap := by
  have nd := rising_nodup g.inc
  refine ⟨fun h => ?_, fun h => ?_⟩
  · refine ⟨h.pm.nodup_iff.mpr nd, fun x => h.pm.mem_iff, F.ne, F.up, fun c hc i x y hx hy => ?_, fun i j c d x y hij hc hd hx hy => ?_, h.len.symm, h.apm, F.api, fun x hx y hy ne d => h.apd x hx y hy ((strict_iff g hf).mpr ⟨d, ne⟩)⟩
    · have h1 := h.ch c hc
      obtain ⟨hi, _⟩ := List.getElem?_eq_some_iff.mp hx
      obtain ⟨hj, _⟩ := List.getElem?_eq_some_iff.mp hy
      have hl := adjL_length (fun x y => (f y).contains x) c
      have hk : i < (adjL (fun x y => (f y).contains x) c).length := by omega
      have e := adjL_get hx hy (List.getElem?_eq_getElem hk)
      have := List.all_eq_true.mp h1 _ (List.getElem_mem hk)
      rw [e] at this
      exact ((strict_iff g hf).mp (List.contains_iff_mem.mp this)).1
    · obtain ⟨hi, ei⟩ := List.getElem?_eq_some_iff.mp hc
      obtain ⟨hj, ej⟩ := List.getElem?_eq_some_iff.mp hd
      have := List.pairwise_iff_getElem.mp F.fst i j (by rw [List.length_map]; exact hi) (by rw [List.length_map]; exact hj) hij
      rw [List.getElem_map, List.getElem_map, ei, ej] at this
      cases c with
      | nil => cases hx
      | cons a r =>
        cases d with
        | nil => cases hy
        | cons b r2 =>
          cases Option.some.inj hx
          cases Option.some.inj hy
          exact this
  · refine ⟨h.len.symm, (List.perm_ext_iff_of_nodup h.nd nd).mpr h.mem, fun c hc => adj_of fun i x y hx hy => ?_, h.apm, fun x hx y hy hm => ?_⟩
    · refine List.contains_iff_mem.mpr ((strict_iff g hf).mpr ⟨h.dn c hc i x y hx hy, fun e => ?_⟩)
      obtain ⟨h1, e1⟩ := List.getElem?_eq_some_iff.mp hx
      obtain ⟨h2, e2⟩ := List.getElem?_eq_some_iff.mp hy
      have := List.pairwise_iff_getElem.mp (h.up c hc) i (i + 1) h1 h2 (by omega)
      rw [e1, e2] at this
      omega
    · obtain ⟨d, ne⟩ := (strict_iff g hf).mp hm
      exact h.apd x hx y hy ne d
end
end Fw

set_option Elab.async false
set_option linter.all false
set_option maxRecDepth 100000
set_option maxHeartbeats 4000000
namespace Fw
open PySem PySem.Spec PyProof.Rows L2
theorem str_eq_dict (b : Str) (u : Tok) (l : Addr) (c : Value) (es : Array DictEntry) (n : Nat) (dd : Option Addr) (sl : Array (Option Value)) :
    Meets (Builtin.«str.__eq__» ⟨[.str b u, .ref l], []⟩) (fun _ R s => s.heap.get? l = some { cls := c, dict := dd, data := .dict es n, slots := sl } ∧ R (.ok (.ret .notImplemented)) s) :=
  .of_wp fun prog w A R s h => by
    obtain ⟨hp, g, d, tk, os⟩ := s
    obtain ⟨hl, h⟩ := h
    wp_walk using AutoSeq1.wpAny_loadPart' hl, wpAny_load hl
    exact ⟨_, rfl, h⟩
section
variable {prog : Program} {w : World} {K : Type} [DecidableEq K] {knd : KeyKind prog w K} {A : Around} {E : Value → Shared → Prop} {s : Shared}
theorem rc_dict_str {a : Addr} {b : Str} {u : Tok} {ka : List (K × Value)} (da : s.heap.DictOf knd a ka) (hu : A.units < cLine) (Q : Value → Shared → Prop) (h : Q (.bool false) s) : wpAny (model prog w) A (richCompare .Eq (.ref a) (.str b u)) Q E s := by
  obtain ⟨⟨cls, dd, data, sl⟩, es, ep, ho, hx, hd, _⟩ := id da
  simp only at hd
  subst hd
  refine SeqAt.rc_eq_decline_or (k := false) da.typeIs (typeIs_str s b u) (by decide) PySem.F.sub_str_dict PySem.F.slot_dict_eq PySem.F.slot_str_eq_refl
    (fun Q' hq => ?_) (fun _ hq => call_meets PySem.F.slot_str_eq_refl (typeIs_str s b u) PySem.F.entry_str_eq (PySem.F.args_str_eq_2 _ _) (str_eq_dict b u a cls es ep dd sl) ⟨ho, hq⟩)
    (fun _ hq => wpAny_of_eq (rfl : isSame (.ref a) (.str b u) = pure false) hq) (.inr hu) h
  refine wpAny_call_entry PySem.F.slot_dict_eq da.typeIs PySem.F.entry_dict_eq ?_ (PySem.F.args_dict_eq_2 _ _)
  show wpAny _ _ (Builtin.Dict.dictSlotArgs "__eq__" ⟨[.ref a, .str b u], []⟩ >>= _) _ _ s
  refine wpAny_bind ?_
  unfold Builtin.Dict.dictSlotArgs
  refine wpAny_bind (wpAny_notOrdered_dict da.typeIs ?_)
  show wpAny _ _ (pure (Value.ref a, Value.str b u)) _ _ s
  refine wpAny_pure ?_
  refine wpAny_bind (wpAny_isInstance (T := "str") (typeIs_str s b u) PySem.F.sub_str_dict ?_)
  simp only [Bool.not_false, if_true]
  exact wpAny_bind (wpAny_rule (wpAny_pure ⟨_, rfl, hq⟩))
end
/-- x == a text, x any data -/
def rEqS (K : PySem.W.Frag) : R2 := fun x y H Q => ∃ z, y = .str z ∧ ((scal x y = true ∧ Q (.bl (decide (x = y))) H) ∨ ∃ a, x = .ref a ∧ ((∃ xs, SqT K H a xs) ∨ (∃ xs, SqL K H a xs) ∨ ∃ kvs, H a = some (.dK kvs)) ∧ Q (.bl false) H)
theorem op_eqS {X : Cx} (hu : X.A.units + 64 < cLine) : OpR X (compareOp .Eq) (rEqS X.K) := by
  intro pins s σ H x y v u Q I rx ry h
  obtain ⟨z, rfl, h⟩ := h
  rcases h with h | ⟨a, rfl, h, q⟩
  · exact op_eq pins s σ H _ _ v u Q I rx ry h
  · cases (show v = Value.ref a from rx)
    obtain ⟨t, rfl⟩ := ry
    have hu2 : X.A.units < cLine := by omega
    show wpAny _ _ (richCompare .Eq (.ref a) (.str z t)) _ _ s
    rcases h with ⟨xs, h⟩ | ⟨xs, h⟩ | ⟨kvs, h⟩
    · obtain ⟨its, rv, p, _⟩ := I.tuple h
      exact SeqAt.RcAt.tuple_str z t p hu2 _ _ _ _ ⟨.bl false, H, I, rfl, q⟩
    · obtain ⟨its, rv, p, _⟩ := I.list h
      exact SeqAt.RcAt.list_str z t p.isList hu2 _ _ _ _ ⟨.bl false, H, I, rfl, q⟩
    · obtain ⟨_, ya, va, ra, da⟩ := (show ObjOk X.prog X.w H s.heap a (.dK kvs) from I.hok a _ h)
      exact rc_dict_str da hu2 _ ⟨.bl false, H, I, rfl, q⟩
/-- a text times an int -/
def rRepS : R2 := fun x y H Q => ∃ (z : Str) (k : Nat), x = .str z ∧ y = .int (k : Int) ∧ 2 ≤ k ∧ k ≤ 1000 ∧ 1 ≤ z.length ∧ z.length ≤ 1000 ∧ (⟨(List.replicate k z.cps).foldl (· ++ ·) #[]⟩ : Str).length ≤ sizeLine ∧ Q (.str ⟨(List.replicate k z.cps).foldl (· ++ ·) #[]⟩) H
theorem op_repS {X : Cx} : OpR X (binaryOp .Mult) rRepS := by
  intro pins s σ H x y v u Q I rx ry h
  obtain ⟨z, k, rfl, rfl, k1, k2, z1, z2, z3, q⟩ := h
  obtain ⟨t, rfl⟩ := rx
  obtain ⟨t', rfl⟩ := ry
  have hm : z.length * k ≤ 1000 * 1000 := Nat.mul_le_mul z2 k2
  have e1 : ¬ ((k : Nat) : Int) < 1 := by omega
  have e2 : (((k : Nat) : Int) == 1 || z.length == 0) = false := by
    rw [Bool.or_eq_false_iff, beq_eq_false_iff_ne, beq_eq_false_iff_ne]
    omega
  refine PySem.P.mul_str ?_ (fun _ _ => ?_) (fun _ _ => ?_) ?_
  · rw [Bool.or_eq_false_iff, decide_eq_false_iff_not, decide_eq_false_iff_not]
    omega
  · have : (1000 : Int) ≤ (2 ^ 63 - 1) / (k : Int) := (Int.le_ediv_iff_mul_le (by omega)).mpr (by omega)
    omega
  · show decide (z.length * k > sizeLine) = false
    rw [decide_eq_false_iff_not, sizeLine_eq]
    omega
  · rw [if_neg e1, if_neg (by rw [e2]; exact Bool.false_ne_true)]
    exact ⟨z3, ⟨.str _, H, I.tok _, ⟨_, rfl⟩, q⟩⟩
end Fw

set_option Elab.async false
set_option linter.all false
set_option maxRecDepth 100000
set_option maxHeartbeats 4000000
namespace Fw
open PySem PySem.Spec PyProof.Rows L2
/-! ### what is caught, by name, also with fields -/
def tTryAs (K : PySem.W.Frag) (c : Value) (i : Nat) (tb : WX → TS) (ts : Addr → Value → Option Addr → TS) : TS := fun D σ H => tb (wAs K c i ts (fun _ _ _ _ => False) D) D σ H
/-- isinstance(e, c), e what the clause holds, its dict having fields -/
def rIsF (K : PySem.W.Frag) (a : Addr) (cls : Value) (d : Option Addr) : List V → Hp → VK → Prop := fun xs H Q => ∃ (C dd : Addr) (fs : List (Str × V)), cls = .ref C ∧ d = some dd ∧ H dd = some (.xd fs) ∧ ExcC K C ∧ rIsE K C a xs H Q
theorem call_isF {X : Cx} {a : Addr} {cls : Value} {d : Option Addr} {oe : Obj} {pn : List (Addr × Obj)} (hz : Zc cls d oe) (hf : ∃ vs, oe.data = .fields vs) : CallR (X.suite a ((a, oe) :: pn)) (.builtin "isinstance") (rIsF X.K a cls d) := by
  intro pins s σ H xs us Q I r ⟨C, dd, fs, e1, e2, hdd, ec, c, cv, b, exs, hcv, ek, q⟩
  subst e1 e2 exs
  cases r with
  | cons rx rr =>
    cases rr with
    | cons rt rr =>
      cases rr
      obtain rfl : _ = Value.ref a := rx
      obtain rfl := hcv _ rt
      obtain ⟨ha, _⟩ := I.pin (a, oe) (List.mem_append_left _ List.mem_cons_self)
      obtain ⟨vs, hv⟩ := hf
      obtain ⟨mA, hns, _⟩ : ObjOk X.prog X.w H s.heap dd (.xd fs) := I.hok dd _ hdd
      obtain ⟨od, ho, _⟩ := lookIn_ns hns
      have J : PySem.W.InstAt s.heap a oe C (some od) := ⟨ha, hz.1, (by unfold PySem.W.notCls; rw [hv] <;> rfl), (by rw [hz.2]; exact ho)⟩
      have hcl : (PySem.W.clsIn X.K C).isSome = true := by
        obtain ⟨cd, hc, _⟩ := PySem.W.any_some ec.hd
        rw [hc]
        rfl
      exact PySem.W.kia_one (PySem.W.kitx_exc hcl ec.hg ec.hk ec.hs ec.ha ec.hn ec.ht ec.hm) I.kIn J ek (fun z => nomatch z) fun tk => ⟨.bl b, H, I.kept (t' := tk) fun _ _ z => z, rfl, q⟩
theorem rel_ref {a : Addr} : ∀ u, RelV (.ref a) u → u = Value.ref a := fun u h => by
  cases h
  rfl
theorem rel_ty {a : String} : ∀ u, RelV (.ty a) u → u = Value.type a := fun u h => by
  cases h
  rfl
/-! ### what an error's class must say, as Bools -/
def excB (K : PySem.W.Frag) (C : Addr) : Bool :=
  decide (PySem.W.findIn K (.ref C) "__getattribute__" = some (some (.builtin "BaseException.__getattribute__"))) && (decide (PySem.W.findIn K (.ref C) "__getattr__" = some none) &&
  (decide (PySem.W.subIn K (.ref C) (.type "BaseException") = some true) && (PySem.W.hasDictIn K C && (decide (PySem.W.findIn K (.ref C) "__class__" = some (some (.builtin "object.__class__"))) &&
  (decide (PySem.W.specialIn K (.builtin "object.__class__") "__get__" = some (some (.builtin "getset_descriptor.__get__"))) && (decide (PySem.W.takesIn K (.builtin "object.__class__") = some true) &&
  decide (PySem.W.mroIn K C (.type "object") = some true)))))))
theorem excB_ok {K : PySem.W.Frag} {C : Addr} (h : excB K C = true) : ExcC K C := by
  unfold excB at h
  simp only [Bool.and_eq_true, decide_eq_true_eq] at h
  obtain ⟨h1, h2, h3, h4, h5, h6, h7, h8⟩ := h
  exact ⟨h1, h2, h3, h4, h5, h6, h7, h8⟩
/-! ### a head with a Bool more -/
abbrev AlY : Type := He.AlD × Bool
def obsYG (n : Nat) (fa : List He.Fa) (fn : List He.DefD) (ex : PySem.W.Frag → Bool) (g : Addr → Option Obj) : AlY := (He.obsD fa fn (He.frG g (cStatics :: He.asD g n)), ex (He.frG g (cStatics :: He.asD g n)))
def hookY (n : Nat) (fa : List He.Fa) (fn : List He.DefD) (ex : PySem.W.Frag → Bool) : PySem.W.Hook where
  α := AlY
  obs := fun s => obsYG n fa fn ex s.heap.get?
  val := fun _ => (He.valD fn, true)
  says := fun _ h => ∃ K : PySem.W.Frag, K.In h ∧ He.SaysD fa fn K ∧ ex K = true
  of := fun _ _ e => ⟨_, He.frG_in, congrArg (fun z : AlY => z.1) e, congrArg (fun z : AlY => z.2) e⟩
  keeps := fun _ _ _ ⟨K, hK, c⟩ k => ⟨K, PySem.W.Frag.In.keeps hK k, c⟩
theorem obsYG_eq {n : Nat} {fa : List He.Fa} {fn : List He.DefD} {ex : PySem.W.Frag → Bool} {g : Addr → Option Obj} {s : Shared} (h : ∀ a, g a = s.heap.get? a) : obsYG n fa fn ex g = (hookY n fa fn ex).obs s := by
  have e : g = s.heap.get? := funext h
  rw [e] <;> rfl
end Fw

set_option Elab.async false
set_option linter.all false
set_option maxRecDepth 100000
set_option maxHeartbeats 4000000
/-! try with one clause `except (A, B):` without a name. -/
namespace Fw
open PySem PySem.Spec PyProof.Rows L2
theorem flyZ_keeps {B h h' : Heap} {l : List Env} {a : Addr} {Z : Obj → Prop} (x : HandSPX.FlyingZ B l a Z h) (k : ∀ b o, h.get? b = some o → h'.get? b = some o) : HandSPX.FlyingZ B l a Z h' := by
  obtain ⟨f1, f2, f3, oe, vs, T, oT, ts, he, hz, hd, h1, hn, hne, hT, hdT, h3⟩ := x
  exact ⟨fun b o q => k b o (f1 b o q), f2, f3.of_keeps fun b o q _ => ⟨o, k b o q, rfl⟩, oe, vs, T, oT, ts, k _ _ he, hz, hd, h1, hn, hne, k _ _ hT, hdT, h3⟩
/-- what one clause with two classes wishes of an exception of the body -/
def wTwo (K : PySem.W.Frag) (c1 c2 : Value) (ts : Addr → Value → Option Addr → TS) (D : Ends) : WX := fun cls d σ H => PySem.W.exmAny K cls [c1, c2] = some true ∧ ∀ a, H a = none → ts a cls d D σ H
def tTry2 (K : PySem.W.Frag) (c1 c2 : Value) (ts : Addr → Value → Option Addr → TS) (tb : WX → TS) : TS := fun D σ H => tb (wTwo K c1 c2 ts D) D σ H
section
variable {X : Cx} {body : List Stmt} {pos pos' p1 p2 tpos : Pos} {kk : Nat} {x1 x2 : Str} {c1 c2 : Value} {ts : Addr → Value → Option Addr → TS} {b₀ : Stmt} {suite : List Stmt} {tb : WX → TS}
theorem ps_try_two (hs : X.stack = X.env :: X.outer) (hf : X.env.frame = some X.env.locals)
    (hb : ∀ (W : WX) (pn : List (Addr × Obj)) (xe : Value → Shared → Prop), Takes (X.tr pn xe) W → PassesOwn (model X.prog X.w) X.A X.env xe → PSs (X.tr pn xe) body (tb W))
    (n1 : Names X x1 c1) (n2 : Names X x2 c2)
    (hsu : ∀ (a : Addr) (oe : Obj) (cls : Value) (d : Option Addr) (pn : List (Addr × Obj)), Zc cls d oe → (∃ vs, oe.data = .fields vs) → PSs (X.suite a ((a, oe) :: pn)) (b₀ :: suite) (ts a cls d)) :
    L2.PS X (.Try body [.ExceptHandler (some (.Tuple [.Name x1 p1, .Name x2 p2] kk tpos)) none (b₀ :: suite) pos'] [] [] pos) (tTry2 X.K c1 c2 ts tb) := by
  refine ⟨fun pins s σ H D I h => ?_⟩
  have ok := I.ok
  have hfr : X.A.frames = some (X.env :: X.outer) := by rw [ok.frames, hs]
  refine wpAny_Try_except ?_
  have bodyOk := (hb (wTwo X.K c1 c2 ts D) (X.pn ++ pins) (fun e s₁ => wpAny (model X.prog X.w) X.A (noteFrame e X.env) (fun _ s₂ => wpAny (model X.prog X.w) X.A (setFlight e none) (fun _ s₃ =>
    wpAny (model X.prog X.w) X.A (handleBy e X.env [.ExceptHandler (some (.Tuple [.Name x1 p1, .Name x2 p2] kk tpos)) none (b₀ :: suite) pos']) (SP X pins D) X.xe s₃) X.xe s₂) X.xe s₁) (fun u s' xx => ?_) PassesOwn.looking).run [] s σ H D (I.toTry _) h
  · refine wpAny_mono bodyOk (fun f s1 hsp => ?_) (fun e s1 he => he)
    cases f with
    | next =>
      obtain ⟨σ', H', J', q⟩ := hsp
      exact wpAny_execs_nil ⟨σ', H', J'.ofTry ok, q⟩
    | brk =>
      obtain ⟨σ', H', J', q⟩ := hsp
      exact ⟨σ', H', J'.ofTry ok, q⟩
    | cont =>
      obtain ⟨σ', H', J', q⟩ := hsp
      exact ⟨σ', H', J'.ofTry ok, q⟩
    | ret u =>
      obtain ⟨v, σ', H', J', r, q⟩ := hsp
      exact ⟨v, σ', H', J'.ofTry ok, r, q⟩
  · obtain ⟨a, B, sI, pins', σ', H', cls, d, rfl, J', nb, up, sky, na, os, ag, w⟩ := xx
    have J : Inv X pins σ' H' sI := J'.ofTry ok
    have sky' : Sky B (X.env :: X.outer) a (Zc cls d) X.env.locals s'.heap := by rw [← hs]; exact sky
    show wpAny (model X.prog X.w) X.A (noteFrame (.ref a) X.env) _ _ _
    refine Sky.land Zc.steady hfr hf sky' fun h3 fl3 up3 => ?_
    have J3 : Inv X pins σ' H' { s' with heap := h3 } := J.landed nb fl3.1 (up.trans up3) os ag
    obtain ⟨oe3, vs3, he3, hz3, hd3⟩ := fl3.there
    have nfr : a ∉ frs (X.env :: X.outer) := fun hm => by
      obtain ⟨_, o', e', hnf⟩ := fl3.2.2.1.mem hm
      rw [he3] at e'; cases e'
      exact hnf _ hd3
    have nL : a ≠ X.env.locals := fun z => nfr (List.mem_filterMap.mpr ⟨X.env, List.mem_cons_self, by rw [hf, z]⟩)
    have nF : a ∉ X.fs := fun hm => by
      obtain ⟨e, he, q⟩ := List.mem_filterMap.mp hm
      exact nfr (List.mem_filterMap.mpr ⟨e, List.mem_cons_of_mem _ he, q⟩)
    have S3 := J3.suite he3 hd3 na nL nF
    have test : ∀ {x : Str} {c : Value} {np : Pos} {Q : Value → Shared → Prop} {E : Value → Shared → Prop}, Names X x c → Q c { s' with heap := h3 } → wpAny (model X.prog X.w) (X.A.mark (some (.ref a))) (eval (.Name x np) X.env) Q E { s' with heap := h3 } := fun {x c np Q E} hc q => by
      obtain ⟨hg, hdbg, hm | ⟨hm, hv, hnn⟩⟩ := hc
      · exact ld_glob (X := X.suite a ((a, oe3) :: (X.pn ++ pins))) S3 hg hm q hdbg
      · exact ld_blt (X := X.suite a ((a, oe3) :: (X.pn ++ pins))) S3 hg hm hv q hnn hdbg
    obtain ⟨hx, hyes⟩ := w
    refine wpAny_handleBy_cons (codeAny_handlers_test ?_) (by intro q; cases q)
    refine wpAny_Tuple ?_
    refine wpAny_items_cons (test n1 ?_)
    refine wpAny_items_cons (test n2 ?_)
    refine wpAny_items_nil ⟨by size_fits, ?_⟩
    have kp : ∀ q o, h3.get? q = some o → (h3.push { cls := .type "tuple", data := .seq [c1, c2].toArray }).get? q = some o := fun _ _ z => Heap.get?_push_of_some _ z
    have fl4 := flyZ_keeps fl3 kp
    have up4 : h3.UpToSlots (h3.push { cls := .type "tuple", data := .seq [c1, c2].toArray }) := Heap.UpToSlots.of_keeps kp
    have J4 : Inv X pins σ' H' { s' with heap := h3.push { cls := .type "tuple", data := .seq [c1, c2].toArray } } := J.landed nb fl4.1 ((up.trans up3).trans up4) os ag
    have LT : PySem.W.Looks (model X.prog X.w) (h3.push { cls := .type "tuple", data := .seq [c1, c2].toArray }) (typeOf (.ref a)) cls := PySem.W.Looks.keeps (show PySem.W.Looks (model X.prog X.w) h3 (typeOf (.ref a)) cls from fun A Q E s k q => wpAny_typeOf_ref (k _ _ he3) (by rw [hz3.1]; exact q)) kp
    refine (PySem.W.exm_tup2 (M := model X.prog X.w) J4.kIn LT (Heap.get?_push_size h3 rfl) hx).here ?_
    refine codeAny_handlers_suite ?_
    refine HandSPX.lands_againZ fl4 fun h5 fl5 up5 => ?_
    have J5 : Inv X pins σ' H' { s' with heap := h5 } := J.landed nb fl5.1 (((up.trans up3).trans up4).trans up5) os ag
    obtain ⟨oe5, vs5, he5, hz5, hd5⟩ := fl5.there
    have S5 := J5.suite he5 hd5 na nL nF
    refine wpAny_mono ((hsu a oe5 cls d (X.pn ++ pins) hz5 ⟨_, hd5⟩).run [] _ _ H' _ S5 (hyes a na)) (fun f s6 hsp => ?_) (fun _ _ z => False.elim z)
    cases f with
    | next =>
      obtain ⟨σ6, H6, S6, q6⟩ := hsp
      exact ⟨_, _, S6.unsuite ok, q6⟩
    | brk =>
      obtain ⟨σ6, H6, S6, q6⟩ := hsp
      exact ⟨_, _, S6.unsuite ok, q6⟩
    | cont =>
      obtain ⟨σ6, H6, S6, q6⟩ := hsp
      exact ⟨_, _, S6.unsuite ok, q6⟩
    | ret u =>
      obtain ⟨v6, σ6, H6, S6, r6, q6⟩ := hsp
      exact ⟨_, _, _, S6.unsuite ok, r6, q6⟩
end
/-- x is True, x is False: x a truth or None -/
def rIsBN : R2 := fun x y H Q => (∃ c d : Bool, x = .bl c ∧ y = .bl d ∧ Q (.bl (c == d)) H) ∨ (x = .non ∧ (∃ d : Bool, y = .bl d) ∧ Q (.bl false) H)
theorem op_isBN {X : Cx} : OpR X (compareOp .Is) rIsBN := by
  intro pins s σ H x y v u Q I rx ry h
  rcases h with ⟨c, d, rfl, rfl, q⟩ | ⟨rfl, ⟨d, rfl⟩, q⟩
  · cases rx
    cases ry
    exact PyProof.Rows.is_bool (fin_bl I q rfl)
  · cases rx
    cases ry
    exact wpAny_is_other rfl (fun z => by cases z) ⟨.bl false, H, I, rfl, q⟩
end Fw

set_option Elab.async false
set_option linter.all false
set_option maxRecDepth 100000
set_option maxHeartbeats 4000000
/-! The papers' checker over any data. -/
namespace Fw
open PySem L2 RZ RT
theorem adj_iff {α : Type} {r : α → α → Bool} {l : List α} : adj r l = true ↔ ∀ (i : Nat) (x y : α), l[i]? = some x → l[i + 1]? = some y → r x y = true := by
  refine ⟨fun h i x y hx hy => ?_, adj_of⟩
  have hl := adjL_length r l
  have hi : i < (adjL r l).length := by
    have := (List.getElem?_eq_some_iff.mp hy).1
    omega
  rw [← adjL_get hx hy (List.getElem?_eq_getElem hi)]
  exact List.all_eq_true.mp h _ (List.getElem_mem hi)
/-- a walk down by links -/
def wkP (ls : List (Int × Int)) (d : Dt) : Prop := ∃ wk : List Int, d = chD wk ∧ 0 < wk.length ∧ ∀ (i : Nat) (x y : Int), wk[i]? = some x → wk[i + 1]? = some y → (x, y) ∈ ls
/-- what shows an answer for w -/
def shP (ls : List (Int × Int)) (ans : List (Int × Bool)) (w : Int) (d : Dt) : Prop := ∃ e : Bool × List Int, d = .tup [.str (word e.1), chD e.2] ∧ GoodRow ls ans w e
/-- a right paper, its contrariness aside -/
def RiP (ws : List Int) (ls : List (Int × Int)) (ans : List (Int × Bool)) (d : Dt) : Prop := ∃ ds, d = .tup ds ∧ ds.length = ws.length ∧ ∀ (i : Nat) (w : Int) (e : Dt), ws[i]? = some w → ds[i]? = some e → shP ls ans w e
def ToldD (tk : List (Key × V)) (ans : List (Int × Bool)) : Prop := ∀ v : Int, (∃ b, (v, b) ∈ ans ∧ (∀ c, (v, c) ∈ ans → c = b) ∧ valV tk (.inl v) = some (.bl b)) ∨ ((∀ b, (v, b) ∉ ans) ∧ valV tk (.inl v) = none)
def sp_is_walk_downA (_ : PySem.W.Frag) : Sp := fun vs H Q _ => ∃ (x : V) (D : Addr) (d : Dt) (kvs : List (List Key × V)) (ls : List (Int × Int)), vs = [x, .ref D] ∧ At H x d ∧ H D = some (.dT kvs) ∧ LinkD kvs ls ∧ ∀ H', Same H H' → Q (.bl (bof (wkP ls d))) H'
def sp_showsA (_ : PySem.W.Frag) : Sp := fun vs H Q _ => ∃ (x : V) (T D : Addr) (w : Int) (d : Dt) (tk : List (Key × V)) (kvs : List (List Key × V)) (ls : List (Int × Int)) (ans : List (Int × Bool)), vs = [x, .int w, .ref T, .ref D] ∧ At H x d ∧ H T = some (.dK tk) ∧ ToldD tk ans ∧ H D = some (.dT kvs) ∧ LinkD kvs ls ∧ ∀ H', Same H H' → Q (.bl (bof (shP ls ans w d))) H'
def sp_are_contraryA (K : PySem.W.Frag) : Sp := fun vs H Q _ => ∃ (p q : Addr) (ws : List Int) (ls : List (Int × Int)) (ans : List (Int × Bool)), vs = [.ref p, .ref q] ∧ ShapeAt H p ws ls ∧ Good ws ls ∧ ws.length ≤ 1000 ∧ ls.length ≤ 10000 ∧ AnsAt H q ans ∧ ans.length ≤ 1000 ∧ (ans.map (·.1)).Nodup ∧ ContraryC K ∧ PySem.W.exmOne K (.ref (He.ga K "Contrary")) (.ref (He.ga K "Contrary")) = some true ∧ ∀ H', Same H H' → Q (.bl (bof (¬ NotContrary ls ans))) H'
def sp_right_paperA (K : PySem.W.Frag) : Sp := fun vs H Q _ => ∃ (p q : Addr) (x : V) (d : Dt) (ws : List Int) (ls : List (Int × Int)) (ans : List (Int × Bool)), vs = [.ref p, .ref q, x] ∧ ShapeAt H p ws ls ∧ Good ws ls ∧ ws.length ≤ 1000 ∧ ls.length ≤ 10000 ∧ AnsAt H q ans ∧ ans.length ≤ 1000 ∧ (ans.map (·.1)).Nodup ∧ ContraryC K ∧ PySem.W.exmOne K (.ref (He.ga K "Contrary")) (.ref (He.ga K "Contrary")) = some true ∧ At H x d ∧ ∀ H', Same H H' → Q (.bl (bof (NotContrary ls ans ∧ RiP ws ls ans d))) H'
abbrev N_is_walk_downA : List Str := ["thing", "links", "upper", "lower"]
def t_is_walk_downA_end (K : PySem.W.Frag) : TS := (tRet (tCB (rAll K) (tCons (tLc (iZipA K (tCons (tVar 0) (tCons (tSl (rSlA K) (tVar 0) (tPart (tC (.int 1))) tNoPart) tNil))) (gTup K 2 (gCons (gName 2) (gCons (gName 3) gNil))) tYes (tDIn (tTup (tCons (tVar 2) (tCons (tVar 3) tNil))) (tVar 1)) [2, 3]) tNil)))
def t_is_walk_downA (K : PySem.W.Frag) : TS := (tSeq (tIfS (tOr (tNot (tB (tCall (sp_is_intsD K) [] E0 (tCons (tVar 0) tNil)))) (tTest (tOp rEq (tCB (fLen K) (tCons (tVar 0) tNil)) (tC (.int 0))))) (tRet (tC (.bl false))) tNext)
    (t_is_walk_downA_end K))
abbrev N_showsA : List Str := ["thing", "version", "told", "links", "first", "last"]
def t_showsA_lacks (K : PySem.W.Frag) : TS := (tRet (tAndV (tOp (rEqS K) (tOp (rIx K) (tVar 0) (tC (.int 0))) (tC (.str "lacks"))) (tAndV (tOp rEq (tVar 4) (tVar 1)) (tOp rIsBN (tDGet1 (tVar 2) (tVar 5)) (tC (.bl false))))))
def t_showsA_held (K : PySem.W.Frag) : TS := (tSeq (tIfS (tTest (tOp (rEqS K) (tOp (rIx K) (tVar 0) (tC (.int 0))) (tC (.str "held")))) (tRet (tAndV (tOp rIsBN (tDGet1 (tVar 2) (tVar 4)) (tC (.bl true))) (tOp rEq (tVar 5) (tVar 1)))) tNext)
    (t_showsA_lacks K))
def t_showsA_fl (K : PySem.W.Frag) : TS := (tSeq (tPar 4 5 (tCons (tOp (rIx K) (tOp (rIx K) (tVar 0) (tC (.int 1))) (tC (.int 0))) (tCons (tOp (rIx K) (tOp (rIx K) (tVar 0) (tC (.int 1))) (tUn rNegI (tC (.int 1)))) tNil)))
    (t_showsA_held K))
def t_showsA (K : PySem.W.Frag) : TS := (tSeq (tIfS (tOr (tNot (tB (tCall (sp_is_pair K) [] E0 (tCons (tVar 0) tNil)))) (tNot (tB (tCall (sp_is_walk_downA K) [] E0 (tCons (tOp (rIx K) (tVar 0) (tC (.int 1))) (tCons (tVar 3) tNil)))))) (tRet (tC (.bl false))) tNext)
    (t_showsA_fl K))
abbrev N_are_contraryA : List Str := ["shape", "answers"]
def t_are_contraryA (K : PySem.W.Frag) : TS := (tSeq (tTryOnly K (.ref (He.ga K "Contrary")) (fun W => (tDrop (tCallS (sp_settledX K) (WE W) (tCons (tVar 0) (tCons (tVar 1) tNil))))) (fun _ _ _ => (tRet (tC (.bl true)))))
    (tRet (tC (.bl false))))
abbrev N_right_paperA : List Str := ["shape", "answers", "thing", "told", "version", "truth", "links", "link", "pair"]
def t_right_paperA_end (K : PySem.W.Frag) : TS := (tRet (tCB (rAll K) (tCons (tLc (iZipA K (tCons (tVar 2) (tCons (tOp (rIx K) (tVar 0) (tC (.int 0))) tNil))) (gTup K 2 (gCons (gName 8) (gCons (gName 4) gNil))) tYes (tCall (sp_showsA K) [] E0 (tCons (tVar 8) (tCons (tVar 4) (tCons (tVar 3) (tCons (tVar 6) tNil))))) [8, 4]) tNil)))
def t_right_paperA_links (K : PySem.W.Frag) : TS := (tSeq (tAsg (tDcG (.dT []) putT (iTup K (tOp (rIx K) (tVar 0) (tC (.int 1)))) (gName 7) tYes (tVar 7) (tC (.bl true)) [7]) (gName 6))
    (t_right_paperA_end K))
def t_right_paperA_told (K : PySem.W.Frag) : TS := (tSeq (tAsg (tDc (iTup K (tVar 1)) (gTup K 2 (gCons (gName 4) (gCons (gName 5) gNil))) tYes (tVar 4) (tVar 5) [4, 5]) (gName 3))
    (t_right_paperA_links K))
def t_right_paperA (K : PySem.W.Frag) : TS := (tSeq (tIfS (tOr (tNot (tB (tCB (rIsi K) (tCons (tVar 2) (tCons (tC (.ty "tuple")) tNil))))) (tOr (tTest (tOp rNe (tCB (fLen K) (tCons (tVar 2) tNil)) (tCB (fLen K) (tCons (tOp (rIx K) (tVar 0) (tC (.int 0))) tNil)))) (tB (tCall (sp_are_contraryA K) [] E0 (tCons (tVar 0) (tCons (tVar 1) tNil)))))) (tRet (tC (.bl false))) tNext)
    (t_right_paperA_told K))
def isStrD : Dt → Str → Bool
  | .str s, z => decide (s = z)
  | _, _ => false
section
variable {K : PySem.W.Frag} {vs : List V} {H : Hp} {Q : VK} {E : XK}
theorem len_is_walk_downA (h : sp_is_walk_downA K vs H Q E) : vs.length = 2 := by obtain ⟨_, _, _, _, _, rfl, _⟩ := h; rfl
theorem len_showsA (h : sp_showsA K vs H Q E) : vs.length = 4 := by obtain ⟨_, _, _, _, _, _, _, _, _, rfl, _⟩ := h; rfl
theorem len_are_contraryA (h : sp_are_contraryA K vs H Q E) : vs.length = 2 := by obtain ⟨_, _, _, _, _, rfl, _⟩ := h; rfl
theorem len_right_paperA (h : sp_right_paperA K vs H Q E) : vs.length = 3 := by obtain ⟨_, _, _, _, _, _, _, rfl, _⟩ := h; rfl
theorem eqS_at {σ : L2.St} {y : V} {e : Dt} {z : Str} (a : At H y e) (q : Q (.bl (isStrD e z)) H) : tC (.str z) σ H fun u H2 => rEqS K y u H2 Q := by
  show rEqS K y (.str z) H Q
  cases a with
  | non =>
    refine ⟨z, rfl, .inl ⟨rfl, ?_⟩⟩
    rw [decide_eq_false (fun h => by cases h)]
    exact q
  | bl b =>
    refine ⟨z, rfl, .inl ⟨rfl, ?_⟩⟩
    rw [decide_eq_false (fun h => by cases h)]
    exact q
  | int i =>
    refine ⟨z, rfl, .inl ⟨rfl, ?_⟩⟩
    rw [decide_eq_false (fun h => by cases h)]
    exact q
  | str s =>
    refine ⟨z, rfl, .inl ⟨rfl, ?_⟩⟩
    by_cases h : s = z
    · subst h
      rw [decide_eq_true rfl]
      have : isStrD (.str s) s = true := decide_eq_true rfl
      rw [this] at q
      exact q
    · rw [decide_eq_false (fun e => h (by injection e))]
      have : isStrD (.str s) z = false := decide_eq_false h
      rw [this] at q
      exact q
  | tup h hz hl ha => exact ⟨z, rfl, .inr ⟨_, rfl, .inl ⟨_, sqT h⟩, q⟩⟩
  | lst h hz hl ha => exact ⟨z, rfl, .inr ⟨_, rfl, .inr (.inl ⟨_, sqL h⟩), q⟩⟩
  | dct h => exact ⟨z, rfl, .inr ⟨_, rfl, .inr (.inr ⟨_, h⟩), q⟩⟩
theorem isStr_held : isStrD (.str (word true)) "held" = true := by
  show decide (("held" : Str) = "held") = true
  exact decide_eq_true rfl
theorem isStr_lacks : isStrD (.str (word false)) "lacks" = true := by
  show decide (("lacks" : Str) = "lacks") = true
  exact decide_eq_true rfl
theorem isStrD_eq {e : Dt} {z : Str} (h : isStrD e z = true) : e = .str z := by
  cases e with
  | str s => rw [of_decide_eq_true h]
  | _ => cases h
theorem isIntsD_inv {d : Dt} (h : isIntsD d = true) : ∃ ns, d = chD ns := by
  cases d with
  | tup ds => exact ⟨ints1 ds, by unfold chD; rw [← allInt h]⟩
  | _ => cases h
theorem isIntsD_ch (ns : List Int) : isIntsD (chD ns) = true := all_ints ns
theorem wkP_ch {ls : List (Int × Int)} {ns : List Int} : wkP ls (chD ns) ↔ 0 < ns.length ∧ adj (fun x y => ls.contains (x, y)) ns = true := by
  refine ⟨fun ⟨wk, e, hp, hl⟩ => ?_, fun ⟨hp, hl⟩ => ⟨ns, rfl, hp, fun i x y hx hy => List.contains_iff_mem.mp (adj_iff.mp hl i x y hx hy)⟩⟩
  injection e with e
  have e := ints_inj e
  subst e
  exact ⟨hp, adj_iff.mpr fun i x y hx hy => List.contains_iff_mem.mpr (hl i x y hx hy)⟩
theorem pure_is_walk_downA (h : sp_is_walk_downA K vs H Q E) : t_is_walk_downA K { nx := fun _ H' => Q .non H', rt := Q } (start N_is_walk_downA vs) H := by
  obtain ⟨x, D, d, kvs, ls, rfl, a, hD, ld, k⟩ := h
  have no : ∀ H', Same H H' → ¬ wkP ls d → Q (.bl false) H' := fun H' s hn => by
    have := k H' s
    rw [bof_f hn] at this
    exact this
  refine ⟨_, rfl, x, d, rfl, a, fun H1 s1 => ?_⟩
  cases ei : isIntsD d with
  | false => exact ⟨_, rfl, iteT (no H1 s1 fun ⟨wk, e, _⟩ => by rw [e, isIntsD_ch] at ei; cases ei)⟩
  | true =>
  refine ⟨_, rfl, iteF ?_⟩
  obtain ⟨wk, rfl⟩ := isIntsD_inv ei
  obtain ⟨t, rfl, ht, hz⟩ := At.to_ints a
  have ht1 := s1 _ _ ht
  refine ⟨_, rfl, lenT ht1 ⟨rfl, _, rfl, ite2 (fun z => ?_) fun z => ?_⟩⟩
  · have := V.int.inj (of_decide_eq_true z)
    rw [List.length_map] at this
    exact no H1 s1 fun w => by have := (wkP_ch.mp w).1; omega
  have hp : 0 < wk.length := by
    by_cases q : 0 < wk.length
    · exact q
    · exact absurd (decide_eq_true (by rw [List.length_map, show wk.length = 0 by omega]; rfl)) z
  clear z
  show t_is_walk_downA_end K { nx := fun _ H' => Q .non H', rt := Q } [some (.ref t), some (.ref D), none, none] H1
  have main : ∀ (q : Addr) (H2 : Hp), Same H1 H2 → H2 q = some (.tup ((wk.map V.int).drop 1)) → ∀ L, H2 L = none → ∀ (R : Hp → Prop), (∀ H3, Same H2 H3 → H3 L = some (.lst ((adjL (fun x y => ls.contains (x, y)) wk).map V.bl)) → R H3) → ∃ W : Nat → Nat → Hp → Prop, (∃ m, W 0 m (upd H2 L (.lst []))) ∧ ∀ i m H, W i m H → ((ItzT K t q).stop i H ∧ R H) ∨ ((ItzT K t q).go i H ∧ ∃ Nx : Hp → Prop, (∀ H', Nx H' → ∃ m', m' < m ∧ W (i + 1) m' H') ∧ ∀ x H', (ItzT K t q).yld i H x H' → gTup K 2 (gCons (gName 2) (gCons (gName 3) gNil)) x (wipe [some (.ref t), some (.ref D), none, none] [2, 3]) H' fun σ2 H2 => wipe σ2 [2, 3] = wipe [some (.ref t), some (.ref D), none, none] [2, 3] ∧ tYes σ2 H2 fun b H3 => if b = true then tDIn (tTup (tCons (tVar 2) (tCons (tVar 3) tNil))) (tVar 1) σ2 H3 fun y H4 => ∃ acc, H4 L = some (.lst acc) ∧ acc.length < sizeLine ∧ Nx (upd H4 L (.lst (acc ++ [y]))) else Nx H3) := by
    intro q H2 s2 hq L nL R kR
    have hlen := adjL_length (fun x y => ls.contains (x, y)) wk
    refine lc_zipT (K := K) (a := t) (b := q) (xs := wk.map V.int) (ys := (wk.map V.int).drop 1) (wk.length - 1) (by rw [List.length_drop, List.length_map]; omega) (fun i H3 => Same H2 H3 ∧ H3 L = some (.lst (((adjL (fun x y => ls.contains (x, y)) wk).take i).map V.bl))) ⟨samNew nL, updS⟩ (fun i H3 s3 => ⟨sqT (s3.1 _ _ (s2 _ _ ht1)), sqT (s3.1 _ _ hq)⟩) (fun i x y T H3 hx hy s3 nT => ?_) (fun H3 s3 => kR H3 s3.1 (by rw [s3.2, List.take_of_length_le (by omega)]))
    rw [List.getElem?_drop, Nat.add_comm] at hy
    obtain ⟨u, rfl, eu⟩ := int_at hx
    obtain ⟨l, rfl, el⟩ := int_at hy
    have hi : i < (adjL (fun x y => ls.contains (x, y)) wk).length := by
      have := (List.getElem?_eq_some_iff.mp el).1
      omega
    have eb := adjL_get eu el (List.getElem?_eq_getElem hi)
    have sT : Same H2 (upd H3 T (.tup [.int u, .int l])) := s3.1.trans (samNew nT)
    have hL : upd H3 T (.tup [.int u, .int l]) L = some (.lst (((adjL (fun x y => ls.contains (x, y)) wk).take i).map V.bl)) := samNew nT _ _ s3.2
    refine ⟨T, [.int u, .int l], rfl, sqT updS, rfl, .int u, [.int l], rfl, .int l, [], rfl, rfl, rfl, ?_⟩
    generalize upd H3 T (.tup [.int u, .int l]) = H4 at sT hL
    refine ⟨_, rfl, _, rfl, by show (2 : Nat) ≤ sizeLine; decide, fun T2 n2 => ⟨_, rfl, D, _, rfl, .inr ⟨kvs, lkKey (u, l), T2, .inl (samNew n2 _ _ (sT _ _ (s2 _ _ (s1 _ _ hD)))), rfl, updS, rfl⟩, ((adjL (fun x y => ls.contains (x, y)) wk).take i).map V.bl, samNew n2 _ _ hL, ?_, Same.updF (sT.trans (samNew n2)) nL, ?_⟩⟩
    · rw [List.length_map, List.length_take]
      exact Nat.lt_of_le_of_lt (show _ ≤ 100000 by omega) (by decide)
    · rw [updS, ld, take_snoc (List.getElem?_eq_getElem hi), List.map_append, eb]
      rfl
  have fin : ∀ {L : Addr} {H3 : Hp}, Same H1 H3 → H3 L = some (.lst ((adjL (fun x y => ls.contains (x, y)) wk).map V.bl)) → tNil [some (.ref t), some (.ref D), none, none] H3 fun ys H2 => rAll K (.ref L :: ys) H2 Q := fun {L H3} s3 hL => by
    refine ⟨L, _, rfl, sqL hL, ?_⟩
    have e : (adjL (fun x y => ls.contains (x, y)) wk).all id = bof (wkP ls (chD wk)) := bof_of (wkP_ch.trans ⟨fun h => h.2, fun h => ⟨hp, h⟩⟩).symm
    rw [e]
    exact k H3 (s1.trans s3)
  refine ⟨_, rfl, _, rfl, _, rfl, t, _, rfl, sqT ht1, fun e => ?_, fun e q nq => ?_⟩
  · exfalso
    have e1 := e.1
    rw [show HT.sIx (wk.map V.int).length 0 (some 1) = min 1 (wk.map V.int).length from HT.sIx_nat _ 0 1, List.length_map] at e1
    omega
  · have s2 : Same H1 (upd H1 q (.tup (cutV (wk.map V.int) (some 1) none))) := samNew nq
    refine ⟨t, q, _, _, rfl, .inr ⟨sqT (s2 _ _ ht1), sqT updS, fun L nL => main q _ s2 (by rw [updS, cut1]) L nL _ fun H3 s3 hL => fin (s2.trans s3) hL⟩⟩
theorem shP_inv {ls : List (Int × Int)} {ans : List (Int × Bool)} {w : Int} {e f : Dt} : shP ls ans w (.tup [e, f]) ↔ ∃ (b : Bool) (wk : List Int), e = .str (word b) ∧ f = chD wk ∧ GoodRow ls ans w (b, wk) := by
  refine ⟨fun ⟨⟨b, wk⟩, h, g⟩ => ?_, fun ⟨b, wk, h1, h2, g⟩ => ⟨(b, wk), by rw [h1, h2], g⟩⟩
  injection h with h
  injection h with h1 h
  injection h with h2 _
  exact ⟨b, wk, h1, h2, g⟩
theorem GoodRow.wk {ls : List (Int × Int)} {ans : List (Int × Bool)} {w : Int} {b : Bool} {wk : List Int} (g : GoodRow ls ans w (b, wk)) : wkP ls (chD wk) := ⟨wk, rfl, g.ne, g.lk⟩
theorem chD_inj {a b : List Int} (h : chD a = chD b) : a = b := by injection h with h; exact ints_inj h
theorem get1 {tk : List (Key × V)} {ans : List (Int × Bool)} {T : Addr} {σ : L2.St} {i j : Nat} {v : Int} {c : Bool} (hT : H T = some (.dK tk)) (td : ToldD tk ans) (ei : σ[i]? = some (some (.ref T))) (ej : σ[j]? = some (some (.int v))) (q : ∀ g : Bool, (g = true ↔ (v, c) ∈ ans) → Q (.bl g) H) : tOp rIsBN (tDGet1 (tVar i) (tVar j)) (tC (.bl c)) σ H Q := by
  refine ⟨_, ei, T, rfl, .inl ⟨_, .inl hT⟩, _, ej, ?_⟩
  rcases td v with ⟨b, h1, h2, h3⟩ | ⟨h1, h2⟩
  · refine ⟨some (.bl b), .inl ⟨_, .inl v, .inl hT, rfl, h3.symm⟩, .inl ⟨b, c, rfl, rfl, q _ ?_⟩⟩
    rw [beq_iff_eq]
    exact ⟨fun e => by rw [← e]; exact h1, fun h => (h2 c h).symm⟩
  · exact ⟨none, .inl ⟨_, .inl v, .inl hT, rfl, h2.symm⟩, .inr ⟨rfl, ⟨c, rfl⟩, q false ⟨(fun z => by cases z), fun z => absurd z (h1 c)⟩⟩⟩
theorem pure_showsA (h : sp_showsA K vs H Q E) : t_showsA K { nx := fun _ H' => Q .non H', rt := Q } (start N_showsA vs) H := by
  obtain ⟨x, T, D, w, d, tk, kvs, ls, ans, rfl, a, hT, td, hD, ld, k⟩ := h
  have no : ∀ H', Same H H' → ¬ shP ls ans w d → Q (.bl false) H' := fun H' s hn => by
    have := k H' s
    rw [bof_f hn] at this
    exact this
  refine ⟨_, rfl, _, _, rfl, a, _, rfl, ?_⟩
  cases hp : isPairD d with
  | false => exact iteT (no H (Same.refl _) fun ⟨e, h, _⟩ => by rw [h] at hp; cases hp)
  | true =>
  refine iteF ?_
  obtain ⟨e, f, rfl⟩ := pair_inv hp
  obtain ⟨p, y, z, rfl, h1, ay, az⟩ := a.pair_inv
  refine ⟨_, rfl, ixT h1 rfl ⟨_, rfl, z, D, f, kvs, ls, rfl, az, hD, ld, fun H1 s1 => ?_⟩⟩
  by_cases hw : wkP ls f
  · rw [bof_t hw]
    refine ⟨_, rfl, iteF ?_⟩
    obtain ⟨wk, rfl, hpos, hlk⟩ := hw
    obtain ⟨t, rfl, h2, hz⟩ := At.to_ints az
    have a1 := s1 _ _ h1
    have a2 := s1 _ _ h2
    obtain ⟨fv, ef⟩ : ∃ f, wk[0]? = some f := ⟨_, List.getElem?_eq_getElem hpos⟩
    obtain ⟨lv, el⟩ : ∃ l, wk[wk.length - 1]? = some l := ⟨_, List.getElem?_eq_getElem (by omega)⟩
    have if0 : atI (wk.map V.int) 0 = some (.int fv) := by
      unfold atI ixN
      rw [List.length_map, if_pos (by decide), if_pos (by omega)]
      show (wk.map V.int)[0]? = _
      rw [List.getElem?_map, ef]
      rfl
    have ifl : atI (wk.map V.int) (-1) = some (.int lv) := by
      unfold atI ixN
      rw [List.length_map, if_neg (by decide), if_pos (by omega)]
      show (wk.map V.int)[(-1 + ((wk.length : Nat) : Int)).toNat]? = _
      rw [show (-1 + ((wk.length : Nat) : Int)).toNat = wk.length - 1 by omega, List.getElem?_map, el]
      rfl
    show t_showsA_fl K { nx := fun _ H' => Q .non H', rt := Q } [some (.ref p), some (.int w), some (.ref T), some (.ref D), none, none] H1
    refine ⟨_, rfl, ixT a1 rfl (ixT a2 if0 ⟨_, rfl, ixT a1 rfl ⟨_, rfl, ixT a2 ifl ⟨_, _, rfl, ?_⟩⟩⟩)⟩
    show t_showsA_held K { nx := fun _ H' => Q .non H', rt := Q } [some (.ref p), some (.int w), some (.ref T), some (.ref D), some (.int fv), some (.int lv)] H1
    have hT1 := s1 _ _ hT
    have ay1 := ay.mono s1
    have yes : shP ls ans w (.tup [e, chD wk]) → Q (.bl true) H1 := fun h => by
      have := k H1 s1
      rw [bof_t h] at this
      exact this
    have shl : (lv, false) ∈ ans → e = .str (word false) → fv = w → shP ls ans w (.tup [e, chD wk]) := fun m he hf => shP_inv.mpr ⟨false, wk, he, rfl, ⟨hpos, hlk, (fun z => by cases z), fun _ => ⟨by rw [← hf]; exact ef, lv, el, m⟩⟩⟩
    have shh : (fv, true) ∈ ans → e = .str (word true) → lv = w → shP ls ans w (.tup [e, chD wk]) := fun m he hf => shP_inv.mpr ⟨true, wk, he, rfl, ⟨hpos, hlk, fun _ => ⟨⟨fv, ef, m⟩, by rw [← hf]; exact el⟩, (fun z => by cases z)⟩⟩
    have inv : shP ls ans w (.tup [e, chD wk]) → (e = .str (word true) ∧ (fv, true) ∈ ans ∧ lv = w) ∨ (e = .str (word false) ∧ fv = w ∧ (lv, false) ∈ ans) := fun h => by
      obtain ⟨b, wk', he, hf, g⟩ := shP_inv.mp h
      have e2 := chD_inj hf
      subst e2
      cases b with
      | true =>
        obtain ⟨⟨s, g1, g2⟩, g3⟩ := g.up rfl
        rw [ef] at g1
        rw [el] at g3
        exact .inl ⟨he, by rw [Option.some.inj g1]; exact g2, Option.some.inj g3⟩
      | false =>
        obtain ⟨g3, s, g1, g2⟩ := g.dn rfl
        rw [el] at g1
        rw [ef] at g3
        exact .inr ⟨he, Option.some.inj g3, by rw [Option.some.inj g1]; exact g2⟩
    have wne : (Dt.str (word true) = Dt.str (word false)) → False := fun h => by
      injection h with h
      exact absurd h (by decide +kernel)
    refine ⟨_, rfl, ixT a1 rfl (eqS_at ay1 ⟨_, rfl, ?_⟩)⟩
    cases hh : isStrD e "held" with
    | true =>
      have he : e = .str (word true) := isStrD_eq hh
      refine iteT (get1 (i := 2) (j := 4) (c := true) hT1 td rfl rfl fun g hg => ⟨_, rfl, ?_⟩)
      cases g with
      | false => exact iteF (no H1 s1 fun h => (inv h).elim (fun z => by have := hg.mpr z.2.1; cases this) fun z => wne (he.symm.trans z.1))
      | true =>
        refine iteT ⟨_, rfl, _, rfl, rfl, ?_⟩
        by_cases hl : lv = w
        · rw [decide_eq_true (show V.int lv = V.int w by rw [hl])]
          exact yes (shh (hg.mp rfl) he hl)
        · rw [decide_eq_false (fun z => hl (V.int.inj z))]
          exact no H1 s1 fun h => (inv h).elim (fun z => hl z.2.2) fun z => wne (he.symm.trans z.1)
    | false =>
      have hne : e ≠ .str (word true) := fun z => by rw [z, isStr_held] at hh; cases hh
      refine iteF ?_
      show t_showsA_lacks K { nx := fun _ H' => Q .non H', rt := Q } [some (.ref p), some (.int w), some (.ref T), some (.ref D), some (.int fv), some (.int lv)] H1
      refine ⟨_, rfl, ixT a1 rfl (eqS_at ay1 ⟨_, rfl, ?_⟩)⟩
      cases h2 : isStrD e "lacks" with
      | false =>
        refine iteF (no H1 s1 fun h => (inv h).elim (fun z => hne z.1) fun z => ?_)
        rw [z.1, isStr_lacks] at h2
        cases h2
      | true =>
        have he : e = .str (word false) := isStrD_eq h2
        refine iteT ⟨_, rfl, _, rfl, rfl, _, rfl, ?_⟩
        by_cases hl : fv = w
        · rw [decide_eq_true (show V.int fv = V.int w by rw [hl])]
          refine iteT (get1 (i := 2) (j := 5) (c := false) hT1 td rfl rfl fun g hg => ?_)
          cases g with
          | false => exact no H1 s1 fun h => (inv h).elim (fun z => hne z.1) fun z => by have := hg.mpr z.2.2; cases this
          | true => exact yes (shl (hg.mp rfl) he hl)
        · rw [decide_eq_false (fun z => hl (V.int.inj z))]
          exact iteF (no H1 s1 fun h => (inv h).elim (fun z => hne z.1) fun z => hl z.2.1)
  · rw [bof_f hw]
    exact ⟨_, rfl, iteT (no H1 s1 fun h => by
      obtain ⟨b, wk, _, hf, g⟩ := shP_inv.mp h
      exact hw (by rw [hf]; exact g.wk))⟩
theorem pure_are_contraryA (h : sp_are_contraryA K vs H Q E) : t_are_contraryA K { nx := fun _ H' => Q .non H', rt := Q } (start N_are_contraryA vs) H := by
  obtain ⟨p, q, ws, ls, ans, rfl, sh, g, hw, hl, an, hasz, nd, cc, em, k⟩ := h
  refine ⟨_, rfl, _, rfl, p, q, ws, ls, ans, rfl, sh, g, hw, hl, an, hasz, nd, cc, fun nc r H1 s1 _ _ => ?_, fun u m hu hm d _ dd H1 s1 _ _ => ⟨true, em, fun _ a _ => ?_, fun z => nomatch z⟩⟩
  · have := k H1 s1
    rw [bof_f (fun z => z nc)] at this
    exact this
  · have := k H1 s1
    rw [bof_t (fun nc => nc u m hu hm d)] at this
    exact this
theorem pure_right_paperA (h : sp_right_paperA K vs H Q E) : t_right_paperA K { nx := fun _ H' => Q .non H', rt := Q } (start N_right_paperA vs) H := by
  obtain ⟨p, q, x, d, ws, ls, ans, rfl, sh, g, hw, hl, an, hasz, nd, cc, em, a, k⟩ := h
  obtain ⟨a0, r0, rs, hp, ha0, hr0, lk⟩ := id sh
  have no : ∀ H', Same H H' → ¬ (NotContrary ls ans ∧ RiP ws ls ans d) → Q (.bl false) H' := fun H' s hn => by
    have := k H' s
    rw [bof_f hn] at this
    exact this
  refine ⟨_, rfl, isiTup a ⟨_, rfl, ?_⟩⟩
  cases hd : isTupD d with
  | false => exact iteT (no H (Same.refl _) fun ⟨_, ds, e, _⟩ => by rw [e] at hd; cases hd)
  | true =>
  refine iteF ?_
  obtain ⟨ds, rfl⟩ : ∃ ds, d = .tup ds := by
    cases d with
    | tup ds => exact ⟨ds, rfl⟩
    | _ => cases hd
  obtain ⟨r, xs, rfl, hr, hxl, hxz, hax⟩ := a.tup_inv
  refine ⟨_, rfl, lenT hr ⟨_, rfl, ixT hp rfl (lenT ha0 ⟨rfl, _, rfl, ite2 (fun z => ?_) fun z => ?_⟩)⟩⟩
  · rw [Bool.not_eq_true', decide_eq_false_iff_not] at z
    refine no H (Same.refl _) fun ⟨_, ds2, e, hl2, _⟩ => z ?_
    injection e with e
    rw [List.length_map, hxl, e, hl2]
  have hlen : ds.length = ws.length := by
    by_cases q : ds.length = ws.length
    · exact q
    · exfalso
      apply z
      rw [Bool.not_eq_true', decide_eq_false_iff_not]
      intro e
      have := V.int.inj e
      rw [List.length_map, hxl] at this
      exact q (by omega)
  clear z
  refine ⟨_, rfl, _, rfl, p, q, ws, ls, ans, rfl, sh, g, hw, hl, an, hasz, nd, cc, em, fun H1 s1 => ⟨_, rfl, ?_⟩⟩
  by_cases nc : NotContrary ls ans
  case neg =>
    rw [bof_t nc]
    exact iteT (no H1 s1 fun z => nc z.1)
  rw [bof_f (fun z => z nc)]
  refine iteF ?_
  have kk : ∀ H', Same H H' → Q (.bl (bof (RiP ws ls ans (.tup ds)))) H' := fun H' s => by
    have := k H' s
    rw [show bof (NotContrary ls ans ∧ RiP ws ls ans (.tup ds)) = bof (RiP ws ls ans (.tup ds)) from bof_of ⟨(fun h => by
      by_cases q : NotContrary ls ans ∧ RiP ws ls ans (.tup ds)
      · exact q.2
      · rw [bof_f q] at h; cases h), fun h => bof_t ⟨nc, h⟩⟩] at this
    exact this
  -- told
  show t_right_paperA_told K { nx := fun _ H' => Q .non H', rt := Q } [some (.ref p), some (.ref q), some (.ref r), none, none, none, none, none, none] H1
  obtain ⟨as, hq, hal, has⟩ : AnsAt H1 q ans := an.mono fun b xs e => s1 _ _ e
  refine ⟨_, rfl, q, rfl, ⟨_, sqT hq⟩, fun L nL => ?_⟩
  refine dc_any (walk_tup (xs := as.map V.ref)) (fun i H2 => Same H1 H2 ∧ ∃ kvs : List (Key × V), H2 L = some (.dK kvs) ∧ kvs.length ≤ i ∧ ToldD kvs (ans.take i)) ⟨samNew nL, [], updS, Nat.le_refl _, fun v => .inr ⟨(fun b z => by rw [List.take_zero] at z; cases z), rfl⟩⟩ (fun i H2 _ z => sqT (z.1 _ _ hq)) ?_ ?_
  · rintro i x H2 H3 hi ⟨s2, kvs, hL, hkl, hkv⟩ ⟨rfl, hx⟩
    obtain ⟨a, rfl, ea⟩ := ref_at hx
    have hi2 : i < ans.length := by rw [← hal]; exact (List.getElem?_eq_some_iff.mp ea).1
    have ee : ans[i]? = some ans[i] := List.getElem?_eq_getElem hi2
    have ndi : ∀ b, (ans[i].1, b) ∉ ans.take i := fun b hm => by
      obtain ⟨j, hj, e⟩ := List.getElem_of_mem hm
      rw [List.length_take] at hj
      rw [List.getElem_take] at e
      have q1 : (ans.map (·.1))[j]'(by rw [List.length_map]; omega) = (ans.map (·.1))[i]'(by rw [List.length_map]; omega) := by
        rw [List.getElem_map, List.getElem_map, e]
      have := (List.getElem_inj nd).mp q1
      omega
    generalize ans[i] = e at ee ndi
    obtain ⟨v, b⟩ := e
    have hb := s2 _ _ (has i a _ ea ee)
    refine ⟨a, [.int v, .bl b], rfl, sqT hb, rfl, _, [.bl b], rfl, _, [], rfl, rfl, rfl, ?_⟩
    refine ⟨_, rfl, _, rfl, kvs, .inl v, rfl, hL, Nat.lt_of_le_of_lt (show kvs.length ≤ 1000 by omega) (by decide), Same.updF s2 nL, _, updS, Nat.le_trans (length_putK _ _ _) (by omega), fun x => ?_⟩
    rw [take_snoc ee]
    by_cases hxv : x = v
    · subst hxv
      refine .inl ⟨b, List.mem_append_right _ (List.mem_singleton.mpr rfl), fun c hc => ?_, by rw [valV_put, if_pos rfl]⟩
      rcases List.mem_append.mp hc with hc | hc
      · exact absurd hc (ndi c)
      · have := List.mem_singleton.mp hc
        exact (Prod.mk.inj this).2
    · have memi : ∀ c, (x, c) ∈ ans.take i ++ [(v, b)] ↔ (x, c) ∈ ans.take i := fun c => by
        rw [List.mem_append, List.mem_singleton]
        exact ⟨fun h => h.elim id fun z => absurd (Prod.mk.inj z).1 hxv, .inl⟩
      rw [valV_put, if_neg (fun z => hxv (Sum.inl.inj z))]
      rcases hkv x with ⟨c, h1, h2, h3⟩ | ⟨h1, h2⟩
      · exact .inl ⟨c, (memi c).mpr h1, fun c' hc => h2 c' ((memi c').mp hc), h3⟩
      · exact .inr ⟨fun c hc => h1 c ((memi c).mp hc), h2⟩
  rintro H2 ⟨s2, tk, hL, hkl, hkv⟩
  rw [List.length_map, hal, List.take_length] at hkv
  show t_right_paperA_links K { nx := fun _ H' => Q .non H', rt := Q } [some (.ref p), some (.ref q), some (.ref r), some (.ref L), none, none, none, none, none] H2
  have s12 := s1.trans s2
  dsimp only [t_right_paperA_links, tSeq, tAsg]
  refine tDcG_links (K := K) (σ := [some (.ref p), some (.ref q), some (.ref r), some (.ref L), none, none, none, none, none]) (s := 7) (te := tOp (rIx K) (tVar 0) (tC (.int 1))) (r := r0) (fun R z => ⟨_, rfl, ixT (s12 _ _ hp) rfl z⟩) (by show (7 : Nat) < 9; decide) (s12 _ _ hr0) (lk.mono fun b xs e => s12 _ _ e) hl fun D kvs H3 nD s3 hD ld => ?_
  show t_right_paperA_end K { nx := fun _ H' => Q .non H', rt := Q } [some (.ref p), some (.ref q), some (.ref r), some (.ref L), none, none, some (.ref D), none, none] H3
  have s13 := s12.trans s3
  have hL3 := s3 _ _ hL
  have hr3 := s13 _ _ hr
  -- each row's word
  let f : Nat → Bool := fun i => bof (∀ w e, ws[i]? = some w → ds[i]? = some e → shP ls ans w e)
  refine ⟨_, rfl, _, rfl, ixT (s13 _ _ hp) rfl ⟨r, a0, _, _, rfl, .inr ⟨sqT hr3, sqT (s13 _ _ ha0), fun A nA => ?_⟩⟩⟩
  refine lc_zipT (K := K) (a := r) (b := a0) (xs := xs) (ys := ws.map V.int) ws.length (by rw [List.length_map]; omega) (fun i H4 => Same H3 H4 ∧ H4 A = some (.lst (((List.range i).map f).map V.bl))) ⟨samNew nA, updS⟩ (fun i H4 s4 => ⟨sqT (s4.1 _ _ hr3), sqT (s4.1 _ _ (s13 _ _ ha0))⟩) (fun i x y T H4 hx hy s4 nT => ?_) (fun H4 s4 => ?_)
  · obtain ⟨w, rfl, ew⟩ := int_at hy
    have hi : i < ds.length := by rw [← hxl]; exact (List.getElem?_eq_some_iff.mp hx).1
    have er := List.getElem?_eq_getElem hi
    generalize ds[i] = e at er
    have sT : Same H3 (upd H4 T (.tup [x, .int w])) := s4.1.trans (samNew nT)
    have hA : upd H4 T (.tup [x, .int w]) A = some (.lst (((List.range i).map f).map V.bl)) := samNew nT _ _ s4.2
    refine ⟨T, [x, .int w], rfl, sqT updS, rfl, x, [.int w], rfl, .int w, [], rfl, rfl, rfl, ?_⟩
    generalize upd H4 T (.tup [x, .int w]) = H5 at sT hA
    refine ⟨_, rfl, _, rfl, _, rfl, _, rfl, x, L, D, w, e, tk, kvs, ls, ans, rfl, (hax i x e hx er).mono (s13.trans sT), sT _ _ hL3, hkv, sT _ _ hD, ld, fun H6 s6 => ⟨_, s6 _ _ hA, ?_, Same.updF (sT.trans s6) nA, ?_⟩⟩
    · have := (List.getElem?_eq_some_iff.mp ew).1
      rw [List.length_map, List.length_map, List.length_range]
      exact Nat.lt_of_le_of_lt (show i ≤ 1000 by omega) (by decide)
    · have ef : bof (shP ls ans w e) = f i := bof_of ⟨(fun h w' e' h1 h2 => by
        rw [ew] at h1
        rw [er] at h2
        cases Option.some.inj h1
        cases Option.some.inj h2
        by_cases q : shP ls ans w e
        · exact q
        · rw [bof_f q] at h; cases h), fun h => bof_t (h w e ew er)⟩
      rw [updS, ef, List.range_succ, List.map_append, List.map_append]
      rfl
  · refine ⟨A, _, rfl, sqL s4.2, ?_⟩
    have e : ((List.range ws.length).map f).all id = bof (RiP ws ls ans (.tup ds)) := bof_of ⟨fun h => ⟨ds, rfl, hlen, fun i w e h1 h2 => ?_⟩, fun ⟨ds2, e, _, h2⟩ => ?_⟩
    · rw [e]
      exact kk H4 (s13.trans s4.1)
    · have hi := (List.getElem?_eq_some_iff.mp h1).1
      have := List.all_eq_true.mp h (f i) (List.mem_map.mpr ⟨i, List.mem_range.mpr hi, rfl⟩)
      by_cases q : ∀ w e, ws[i]? = some w → ds[i]? = some e → shP ls ans w e
      · exact q w e h1 h2
      · have : f i = true := this
        rw [show f i = false from bof_f q] at this
        cases this
    · injection e with e
      subst e
      rw [List.all_eq_true]
      intro b hb
      obtain ⟨i, _, rfl⟩ := List.mem_map.mp hb
      exact bof_t (fun w e h1 h3 => h2 i w e h1 h3)
end
end Fw

set_option Elab.async false
set_option linter.all false
set_option maxRecDepth 100000
set_option maxHeartbeats 4000000
/-! What law k23 draws, and its own look at papers. -/
namespace Fw
open PySem L2 RZ RT
def sp_l_truth (_ : PySem.W.Frag) : Sp := fun vs H Q _ => ∃ b : Bool, vs = [.bl b, .bl b] ∧ Q (.bl true) H
/-- the law's way -/
def wyP (ws : List Int) (ls : List (Int × Int)) (d : Dt) : Prop := ∃ wk : List Int, d = chD wk ∧ 0 < wk.length ∧ (∀ x ∈ wk, x ∈ ws) ∧ ∀ (i : Nat) (x y : Int), wk[i]? = some x → wk[i + 1]? = some y → (x, y) ∈ ls
def sp_l_is_wayA (_ : PySem.W.Frag) : Sp := fun vs H Q _ => ∃ (p : Addr) (x : V) (d : Dt) (ws : List Int) (ls : List (Int × Int)), vs = [.ref p, x] ∧ ShapeAt H p ws ls ∧ At H x d ∧ ∀ H', Same H H' → Q (.bl (bof (wyP ws ls d))) H'
def sp_l_is_paperA (_ : PySem.W.Frag) : Sp := fun vs H Q _ => ∃ (p q : Addr) (x : V) (d : Dt) (ws : List Int) (ls : List (Int × Int)) (ans : List (Int × Bool)), vs = [.ref p, .ref q, x] ∧ ShapeAt H p ws ls ∧ Good ws ls ∧ ws.length ≤ 1000 ∧ AnsAt H q ans ∧ At H x d ∧ ∀ H', Same H H' → Q (.bl (bof (RiP ws ls ans d))) H'
def sp_l_walk (_ : PySem.W.Frag) : Sp := fun vs H Q _ => ∃ (c D p : Addr) (ns : List Int) (t : Nat) (ws : List Int) (ls : List (Int × Int)) (v : Int), vs = [.ref D, .ref p, .int v] ∧ Dk c D ns t H ∧ ShapeAt H p ws ls ∧ ls.length ≤ 10000 ∧ t + 10 < 1000000000 ∧
  ∀ (q : Addr) (wk : List Int) (H' : Hp), Kp D H H' → Dk c D ns (t + 10) H' → H' q = some (.tup (wk.map V.int)) → q ≠ D → wk.length ≤ 10 → Q (.ref q) H'
def sp_l_made_up (_ : PySem.W.Frag) : Sp := fun vs H Q _ => ∃ (c D p : Addr) (ns : List Int) (t : Nat) (ws : List Int) (ls : List (Int × Int)), vs = [.ref D, .ref p] ∧ Dk c D ns t H ∧ ShapeAt H p ws ls ∧ ls.length ≤ 10000 ∧ ws.length ≤ 20 ∧ t + 1000 < 1000000000 ∧
  ∀ (x : V) (H' : Hp), Kp D H H' → Dk c D ns (t + 1000) H' → Okd D 20 H' x → Q x H'
abbrev N_l_truth : List Str := ["_law_found", "_law_due"]
def t_l_truth (K : PySem.W.Frag) : TS := (tRet (tAndV (tCB (rIsi K) (tCons (tVar 0) (tCons (tC (.ty "bool")) tNil))) (tOp rEq (tVar 0) (tVar 1))))
abbrev N_l_is_wayA : List Str := ["_law_web", "_law_thing", "_law_one", "_law_k"]
def t_l_is_wayA_links (K : PySem.W.Frag) : TS := (tSeq (tFor (iRng2 (tCons (tC (.int 1)) (tCons (tCB (fLen K) (tCons (tVar 1) tNil)) tNil))) (gName 3) (tIfS (tTest (tOp (rNotInT K) (tTup (tCons (tOp (rIx K) (tVar 1) (tOp rSubI (tVar 3) (tC (.int 1)))) (tCons (tOp (rIx K) (tVar 1) (tVar 3)) tNil))) (tOp (rIx K) (tVar 0) (tC (.int 1))))) (tRet (tC (.bl false))) tNext))
    (tRet (tC (.bl true))))
def t_l_is_wayA_ones (K : PySem.W.Frag) : TS := (tSeq (tFor (iTup K (tVar 1)) (gName 2) (tIfS (tOr (tNot (tB (tCall (sp_l_intA K) [] E0 (tCons (tVar 2) tNil)))) (tTest (tOp (rIn K true) (tVar 2) (tOp (rIx K) (tVar 0) (tC (.int 0)))))) (tRet (tC (.bl false))) tNext))
    (t_l_is_wayA_links K))
def t_l_is_wayA (K : PySem.W.Frag) : TS := (tSeq (tIfS (tOr (tNot (tB (tCB (rIsi K) (tCons (tVar 1) (tCons (tC (.ty "tuple")) tNil))))) (tTest (tOp rEq (tCB (fLen K) (tCons (tVar 1) tNil)) (tC (.int 0))))) (tRet (tC (.bl false))) tNext)
    (t_l_is_wayA_ones K))
abbrev N_l_is_paperA : List Str := ["_law_web", "_law_answers_here", "_law_thing", "_law_k", "_law_row", "_law_good", "_law_one"]
def t_l_is_paperA_two (K : PySem.W.Frag) : TS := (tIfS (tAnd (tTest (tOp rEq (tOp (rIx K) (tVar 4) (tC (.int 0))) (tC (.str "lacks")))) (tAnd (tNot (tB (tOp (rIx K) (tVar 6) (tC (.int 1))))) (tAnd (tTest (tOp rEq (tOp (rIx K) (tOp (rIx K) (tVar 4) (tC (.int 1))) (tUn rNegI (tC (.int 1)))) (tOp (rIx K) (tVar 6) (tC (.int 0))))) (tTest (tOp rEq (tOp (rIx K) (tOp (rIx K) (tVar 4) (tC (.int 1))) (tC (.int 0))) (tOp (rIx K) (tOp (rIx K) (tVar 0) (tC (.int 0))) (tVar 3))))))) (tAsg (tC (.bl true)) (gName 5)) tNext)
def t_l_is_paperA_one (K : PySem.W.Frag) : TS := (tSeq (tIfS (tAnd (tTest (tOp rEq (tOp (rIx K) (tVar 4) (tC (.int 0))) (tC (.str "held")))) (tAnd (tB (tOp (rIx K) (tVar 6) (tC (.int 1)))) (tAnd (tTest (tOp rEq (tOp (rIx K) (tOp (rIx K) (tVar 4) (tC (.int 1))) (tC (.int 0))) (tOp (rIx K) (tVar 6) (tC (.int 0))))) (tTest (tOp rEq (tOp (rIx K) (tOp (rIx K) (tVar 4) (tC (.int 1))) (tUn rNegI (tC (.int 1)))) (tOp (rIx K) (tOp (rIx K) (tVar 0) (tC (.int 0))) (tVar 3))))))) (tAsg (tC (.bl true)) (gName 5)) tNext)
    (t_l_is_paperA_two K))
def t_l_is_paperA_end (K : PySem.W.Frag) : TS := (tIfS (tNot (tB (tVar 5))) (tRet (tC (.bl false))) tNext)
def t_l_is_paperA_good (K : PySem.W.Frag) : TS := (tSeq (tAsg (tC (.bl false)) (gName 5))
    (tSeq (tFor (iTup K (tVar 1)) (gName 6) (t_l_is_paperA_one K))
    (t_l_is_paperA_end K)))
def t_l_is_paperA_way (K : PySem.W.Frag) : TS := (tSeq (tIfS (tNot (tB (tCall (sp_l_is_wayA K) [] E0 (tCons (tVar 0) (tCons (tOp (rIx K) (tVar 4) (tC (.int 1))) tNil))))) (tRet (tC (.bl false))) tNext)
    (t_l_is_paperA_good K))
def t_l_is_paperA_row (K : PySem.W.Frag) : TS := (tSeq (tAsg (tOp (rIx K) (tVar 2) (tVar 3)) (gName 4))
    (tSeq (tIfS (tOr (tNot (tB (tCB (rIsi K) (tCons (tVar 4) (tCons (tC (.ty "tuple")) tNil))))) (tOr (tTest (tOp rNe (tCB (fLen K) (tCons (tVar 4) tNil)) (tC (.int 2)))) (tNot (tB (tCB (rIsi K) (tCons (tOp (rIx K) (tVar 4) (tC (.int 0))) (tCons (tC (.ty "str")) tNil))))))) (tRet (tC (.bl false))) tNext)
    (t_l_is_paperA_way K)))
def t_l_is_paperA_rows (K : PySem.W.Frag) : TS := (tSeq (tFor (iRng1 (tCons (tCB (fLen K) (tCons (tVar 2) tNil)) tNil)) (gName 3) (t_l_is_paperA_row K))
    (tRet (tC (.bl true))))
def t_l_is_paperA (K : PySem.W.Frag) : TS := (tSeq (tIfS (tOr (tNot (tB (tCB (rIsi K) (tCons (tVar 2) (tCons (tC (.ty "tuple")) tNil))))) (tTest (tOp rNe (tCB (fLen K) (tCons (tVar 2) tNil)) (tCB (fLen K) (tCons (tOp (rIx K) (tVar 0) (tC (.int 0))) tNil))))) (tRet (tC (.bl false))) tNext)
    (t_l_is_paperA_rows K))
abbrev N_l_walk : List Str := ["_law_deck_here", "_law_web", "_law_version", "_law_walk_here", "_law_k", "_law_lows", "_law_two"]
def t_l_walk_step (K : PySem.W.Frag) : TS := (tIfS (tTest (tOp rGtI (tCB (fLen K) (tCons (tVar 5) tNil)) (tC (.int 0)))) (tDrop (tBM K "list" rAppend (tVar 3) (tCons (tOp (rIx K) (tVar 5) (tCall (sp_l_draw K) [] E0 (tCons (tVar 0) (tCons (tCB (fLen K) (tCons (tVar 5) tNil)) tNil)))) tNil))) tNext)
def t_l_walk_lows (K : PySem.W.Frag) : TS := (tSeq (tAsg (tLc (iTup K (tOp (rIx K) (tVar 1) (tC (.int 1)))) (gName 6) (tTest (tOp rEq (tOp (rIx K) (tVar 6) (tC (.int 0))) (tOp (rIx K) (tVar 3) (tUn rNegI (tC (.int 1)))))) (tOp (rIx K) (tVar 6) (tC (.int 1))) [6]) (gName 5))
    (t_l_walk_step K))
def t_l_walk_loop (K : PySem.W.Frag) : TS := (tSeq (tFor (iRng1 (tCons (tCall (sp_l_draw K) [] E0 (tCons (tVar 0) (tCons (tC (.int 5)) tNil))) tNil)) (gName 4) (t_l_walk_lows K))
    (tRet (tCB (fTupleOf K) (tCons (tVar 3) tNil))))
def t_l_walk (K : PySem.W.Frag) : TS := (tSeq (tAsg (tLst (tCons (tVar 2) tNil)) (gName 3))
    (t_l_walk_loop K))
abbrev N_l_made_up : List Str := ["_law_deck_here", "_law_web", "_law_told", "_law_version", "_law_upper", "_law_walk_here"]
def t_l_made_up_add (K : PySem.W.Frag) : TS := (tDrop (tBM K "list" rAppend (tVar 2) (tCons (tTup (tCons (tOp (rIx K) (tLst (tCons (tC (.str "held")) (tCons (tC (.str "lacks")) tNil))) (tCall (sp_l_draw K) [] E0 (tCons (tVar 0) (tCons (tC (.int 2)) tNil)))) (tCons (tVar 5) tNil))) tNil)))
def t_l_made_up_two (K : PySem.W.Frag) : TS := (tSeq (tIfS (tTest (tOp rEq (tCall (sp_l_draw K) [] E0 (tCons (tVar 0) (tCons (tC (.int 2)) tNil))) (tC (.int 0)))) (tAsg (tCall (sp_l_walk K) [] E0 (tCons (tVar 0) (tCons (tVar 1) (tCons (tVar 3) tNil)))) (gName 5)) tNext)
    (t_l_made_up_add K))
def t_l_made_up_up (K : PySem.W.Frag) : TS := (tSeq (tAsg (tCall (sp_l_walk K) [] E0 (tCons (tVar 0) (tCons (tVar 1) (tCons (tVar 4) tNil)))) (gName 5))
    (t_l_made_up_two K))
def t_l_made_up_loop (K : PySem.W.Frag) : TS := (tSeq (tFor (iTup K (tOp (rIx K) (tVar 1) (tC (.int 0)))) (gName 3) (tSeq (tAsg (tOp (rIx K) (tOp (rIx K) (tVar 1) (tC (.int 0))) (tCall (sp_l_draw K) [] E0 (tCons (tVar 0) (tCons (tCB (fLen K) (tCons (tOp (rIx K) (tVar 1) (tC (.int 0))) tNil)) tNil)))) (gName 4))
    (t_l_made_up_up K)))
    (tRet (tCB (fTupleOf K) (tCons (tVar 2) tNil))))
def t_l_made_up (K : PySem.W.Frag) : TS := (tSeq (tAsg (tLst tNil) (gName 2))
    (t_l_made_up_loop K))
theorem GoodRow.inn2 {ws : List Int} {ls : List (Int × Int)} {ans : List (Int × Bool)} {w : Int} {e : Bool × List Int} (h : GoodRow ls ans w e) (g : Good ws ls) (hw : w ∈ ws) : wyP ws ls (chD e.2) := ⟨e.2, rfl, h.ne, h.inn g hw, h.lk⟩
theorem pI_none {ls : List (Int × Int)} {l : Int × Int} (h : l ∉ ls) : ((ls.map pI).any fun z => PyData.eqv z (pI l)) = false := by
  rw [Bool.eq_false_iff]
  intro z
  rw [List.any_map, List.any_eq_true] at z
  obtain ⟨m, hm, e⟩ := z
  have e : (PyData.eqv (.int m.1) (.int l.1) && (PyData.eqv (.int m.2) (.int l.2) && true)) = true := e
  have e1 : ∀ a b : Int, PyData.eqv (.int a) (.int b) = true → a = b := fun a b q => by simpa [PyData.eqv] using q
  rw [Bool.and_eq_true, Bool.and_eq_true] at e
  exact h (by rw [← show m = l from Prod.ext (e1 _ _ e.1) (e1 _ _ e.2.1)]; exact hm)
section
variable {K : PySem.W.Frag} {vs : List V} {H : Hp} {Q : VK} {E : XK}
theorem len_l_truth (h : sp_l_truth K vs H Q E) : vs.length = 2 := by obtain ⟨_, rfl, _⟩ := h; rfl
theorem len_l_is_wayA (h : sp_l_is_wayA K vs H Q E) : vs.length = 2 := by obtain ⟨_, _, _, _, _, rfl, _⟩ := h; rfl
theorem len_l_is_paperA (h : sp_l_is_paperA K vs H Q E) : vs.length = 3 := by obtain ⟨_, _, _, _, _, _, _, rfl, _⟩ := h; rfl
theorem len_l_walk (h : sp_l_walk K vs H Q E) : vs.length = 3 := by obtain ⟨_, _, _, _, _, _, _, _, rfl, _⟩ := h; rfl
theorem len_l_made_up (h : sp_l_made_up K vs H Q E) : vs.length = 2 := by obtain ⟨_, _, _, _, _, _, _, rfl, _⟩ := h; rfl
theorem pure_l_truth (h : sp_l_truth K vs H Q E) : t_l_truth K { nx := fun _ H' => Q .non H', rt := Q } (start N_l_truth vs) H := by
  obtain ⟨b, rfl, k⟩ := h
  refine ⟨_, rfl, isi (At.bl (H := H) b).tyX k_bb ⟨_, rfl, iteT ⟨_, rfl, _, rfl, ?_⟩⟩⟩
  have e : decide (V.bl b = V.bl b) = true := decide_eq_true rfl
  exact ⟨rfl, by rw [e]; exact k⟩
theorem pure_l_is_wayA (h : sp_l_is_wayA K vs H Q E) : t_l_is_wayA K { nx := fun _ H' => Q .non H', rt := Q } (start N_l_is_wayA vs) H := by
  obtain ⟨p, x, d, ws, ls, rfl, ⟨a0, r0, rs, hp, ha0, hr0, lk⟩, a, k⟩ := h
  have no : ∀ H', Same H H' → ¬ wyP ws ls d → Q (.bl false) H' := fun H' s hn => by
    have := k H' s
    rw [bof_f hn] at this
    exact this
  refine ⟨_, rfl, isiTup a ⟨_, rfl, ?_⟩⟩
  cases hd : isTupD d with
  | false => exact iteT (no H (Same.refl _) fun ⟨wk, e, _⟩ => by rw [e] at hd; cases hd)
  | true =>
  refine iteF ?_
  obtain ⟨ds, rfl⟩ : ∃ ds, d = .tup ds := by
    cases d with
    | tup ds => exact ⟨ds, rfl⟩
    | _ => cases hd
  obtain ⟨t, xs, rfl, ht, hxl, hxz, hax⟩ := a.tup_inv
  have lenOf : ∀ {wk : List Int}, Dt.tup ds = chD wk → ds = wk.map Dt.int := fun e => by injection e
  refine ⟨_, rfl, lenT ht ⟨rfl, _, rfl, ite2 (fun z => ?_) fun _ => ?_⟩⟩
  · have := V.int.inj (of_decide_eq_true z)
    refine no H (Same.refl _) fun ⟨wk, e, hp, _⟩ => ?_
    have := congrArg List.length (lenOf e)
    rw [List.length_map] at this
    omega
  show t_l_is_wayA_ones K { nx := fun _ H' => Q .non H', rt := Q } [some (.ref p), some (.ref t), none, none] H
  rename_i zz
  have hpos : 0 < ds.length := by
    by_cases q : 0 < ds.length
    · exact q
    · exact absurd (decide_eq_true (by rw [hxl, show ds.length = 0 by omega]; rfl)) zz
  clear zz
  refine ⟨_, rfl, t, rfl, ⟨_, sqT ht⟩, ?_⟩
  refine for_tup (K := K) (a := t) (xs := xs) (fun i σ H' => H' = H ∧ (∃ wk : List Int, ds.take i = wk.map Dt.int ∧ ∀ x ∈ wk, x ∈ ws) ∧ ∃ z2 : Option V, σ = [some (.ref p), some (.ref t), z2, none]) ⟨rfl, ⟨[], rfl, fun x hx => nomatch hx⟩, none, rfl⟩ (fun i σ H' _ ⟨e, _⟩ => by rw [e]; exact sqT ht) ?_ ?_
  · rintro i y σ H' hx ⟨rfl, ⟨wk, htk, hin⟩, z2, rfl⟩
    have hi : i < ds.length := by rw [← hxl]; exact (List.getElem?_eq_some_iff.mp hx).1
    have ed := List.getElem?_eq_getElem hi
    generalize ds[i] = e at ed
    have ae := hax i y e hx ed
    refine ⟨_, rfl, y, e, rfl, ae, _, rfl, ?_⟩
    have here : ∀ {wk2 : List Int}, Dt.tup ds = chD wk2 → (∀ x ∈ wk2, x ∈ ws) → ∃ w, e = .int w ∧ w ∈ ws := fun {wk2} q1 q2 => by
      rw [lenOf q1, List.getElem?_map] at ed
      cases q : wk2[i]? with
      | none => rw [q] at ed; cases ed
      | some w => rw [q] at ed; exact ⟨w, (Option.some.inj ed).symm, q2 w (List.mem_of_getElem? q)⟩
    cases hI : isIntD e with
    | false =>
      refine iteT (no H' (Same.refl _) fun ⟨wk2, q1, _, q2, _⟩ => ?_)
      obtain ⟨w, he, _⟩ := here q1 q2
      rw [he] at hI
      cases hI
    | true =>
      obtain ⟨w, rfl⟩ : ∃ w, e = .int w := by
        cases e with
        | int w => exact ⟨w, rfl⟩
        | _ => cases hI
      obtain rfl := ae.int_inv
      refine iteF ⟨_, rfl, _, rfl, ixT hp rfl ⟨a0, _, rfl, .inr (sqT ha0), rfl, flat_ints _, _, rfl, ?_⟩⟩
      show if (!inV (.int w) (ws.map V.int)) = true then _ else _
      rw [inV_ints]
      by_cases hw : w ∈ ws
      · rw [List.contains_iff_mem.mpr hw]
        refine iteF ⟨rfl, ⟨wk ++ [w], by rw [take_snoc ed, htk, List.map_append]; rfl, fun x hx => ?_⟩, _, rfl⟩
        rcases List.mem_append.mp hx with h | h
        · exact hin x h
        · rw [List.mem_singleton.mp h]; exact hw
      · rw [Bool.eq_false_iff.mpr fun z => hw (List.contains_iff_mem.mp z)]
        refine iteT (no H' (Same.refl _) fun ⟨wk2, q1, _, q2, _⟩ => ?_)
        obtain ⟨w2, he, h2⟩ := here q1 q2
        injection he with he
        exact hw (by rw [he]; exact h2)
  · rintro σ H' ⟨rfl, ⟨wk, htk, hin⟩, z2, rfl⟩
    rw [hxl, List.take_length] at htk
    subst htk
    rw [List.length_map] at hpos
    obtain ⟨t', e', ht', hz'⟩ := At.to_ints a
    cases e'
    have lkn : ∀ {wk2 : List Int}, Dt.tup (wk.map Dt.int) = chD wk2 → wk2 = wk := fun e => (chD_inj e).symm
    show t_l_is_wayA_links K { nx := fun _ H' => Q .non H', rt := Q } [some (.ref p), some (.ref t), z2, none] H'
    refine ⟨_, rfl, lenT ht' ⟨1, _, rfl, ⟨by decide, by decide, by omega, by rw [List.length_map]; omega⟩, ?_⟩⟩
    refine for_range (lo := 1) (n := (((wk.map V.int).length : Int) - 1).toNat) (fun i σ H2 => Same H' H2 ∧ (∀ (j : Nat) (x y : Int), j < i → wk[j]? = some x → wk[j + 1]? = some y → (x, y) ∈ ls) ∧ ∃ z3 : Option V, σ = [some (.ref p), some (.ref t), z2, z3]) ⟨.refl _, (fun j x y hj => absurd hj (Nat.not_lt_zero _)), none, rfl⟩ ?_ ?_
    · rintro i σ H2 hi ⟨s2, ok, z3, rfl⟩
      rw [List.length_map] at hi
      have h1 : wk[i]? = some wk[i] := List.getElem?_eq_getElem (by omega)
      have h2 : wk[i + 1]? = some wk[i + 1] := List.getElem?_eq_getElem (by omega)
      have a1 : atI (wk.map V.int) (1 + (i : Int) - 1) = some (.int wk[i]) := by rw [show (1 + (i : Int) - 1) = (i : Int) by omega]; exact at_of h1
      have a2 : atI (wk.map V.int) (1 + (i : Int)) = some (.int wk[i + 1]) := by rw [show (1 + (i : Int)) = ((i + 1 : Nat) : Int) by omega]; exact at_of h2
      have ht2 := s2 _ _ ht'
      refine ⟨_, rfl, _, rfl, _, _, rfl, rfl, ixT ht2 a1 ⟨_, rfl, _, rfl, ixT ht2 a2 ⟨by show (2 : Nat) ≤ sizeLine; decide, fun T nT => ?_⟩⟩⟩
      have s3 : Same H' (upd H2 T (.tup [.int wk[i], .int wk[i + 1]])) := s2.trans (samNew nT)
      refine ⟨_, rfl, ixT (s3 _ _ hp) rfl ⟨pI (wk[i], wk[i + 1]), ls.map pI, .tup (sqT (s3 _ _ hr0)) (dp_links rs ls lk.1 fun j a l q1 q2 => s3 _ _ (lk.2 j a l q1 q2)), .tup (sqT updS) (.cons (.int _) (.cons (.int _) .nil)), pI_shapedT ls, rfl, _, rfl, ?_⟩⟩
      by_cases hm : (wk[i], wk[i + 1]) ∈ ls
      · rw [pI_any hm]
        refine iteF ⟨s3, fun j x y hj hx hy => ?_, _, rfl⟩
        by_cases e : j = i
        · subst e
          rw [h1] at hx
          rw [h2] at hy
          rw [← Option.some.inj hx, ← Option.some.inj hy]
          exact hm
        · exact ok j x y (by omega) hx hy
      · rw [pI_none hm]
        refine iteT (no _ s3 fun ⟨wk2, q1, _, _, q4⟩ => ?_)
        rw [lkn q1] at q4
        exact hm (q4 i _ _ h1 h2)
    · rintro σ H2 ⟨s2, ok, z3, rfl⟩
      rw [List.length_map] at ok
      have := k H2 s2
      rw [bof_t (show wyP ws ls (.tup (wk.map Dt.int)) from ⟨wk, rfl, hpos, hin, fun i x y hx hy => ok i x y (by have := (List.getElem?_eq_some_iff.mp hy).1; omega) hx hy⟩)] at this
      exact this
/-- a made-up row -/
def RwK (D : Addr) (H : Hp) (a : Addr) : Prop := ∃ (s : Str) (q : Addr) (wk : List Int), a ≠ D ∧ H a = some (.tup [.str s, .ref q]) ∧ q ≠ D ∧ H q = some (.tup (wk.map V.int)) ∧ wk.length ≤ 10
theorem RwK.mono {D : Addr} {H H' : Hp} {a : Addr} (h : RwK D H a) (m : ∀ b xs, H b = some (.tup xs) → H' b = some (.tup xs)) : RwK D H' a := by
  obtain ⟨s, q, wk, h1, h2, h3, h4, h5⟩ := h
  exact ⟨s, q, wk, h1, m _ _ h2, h3, m _ _ h4, h5⟩
theorem RwK.ok {D : Addr} {H : Hp} {a : Addr} (h : RwK D H a) : Okd D 20 H (.ref a) := by
  obtain ⟨s, q, wk, h1, h2, h3, h4, h5⟩ := h
  refine .tup h1 h2 (by show (2 : Nat) ≤ 20; decide) fun y hy => ?_
  rcases List.mem_cons.mp hy with rfl | hy
  · exact ⟨_, .str _⟩
  · rw [List.mem_singleton.mp hy]
    refine .tup h3 h4 (by rw [List.length_map]; omega) fun y hy => ?_
    obtain ⟨n, _, rfl⟩ := List.mem_map.mp hy
    exact .int n
theorem paper_twoA {D : Ends} {p q r a t x a0 r0 : Addr} {k : Int} {ys zs : List V} {g b : Bool} {s : Str} {v f l w : Int} (ha : H a = some (.tup [.str s, .ref t])) (ht : H t = some (.tup ys)) (h0 : atI ys 0 = some (.int f)) (hl : atI ys (-1) = some (.int l)) (hx : H x = some (.tup [.int v, .bl b])) (hp : H p = some (.tup [.ref a0, .ref r0])) (ha0 : H a0 = some (.tup zs)) (hz : atI zs k = some (.int w))
    (kk : ∀ g' : Bool, (g' = true ↔ g = true ∨ (s = word false ∧ b = false ∧ l = v ∧ f = w)) → D.nx [some (.ref p), some (.ref q), some (.ref r), some (.int k), some (.ref a), some (.bl g'), some (.ref x)] H) :
    t_l_is_paperA_two K D [some (.ref p), some (.ref q), some (.ref r), some (.int k), some (.ref a), some (.bl g), some (.ref x)] H := by
  refine ⟨_, rfl, ixT ha rfl ⟨rfl, _, rfl, ite2 (fun z0 => ?_) fun z0 => iteF (kk g ⟨.inl, fun h => h.elim id fun z => absurd (decide_eq_true (by rw [z.1]; rfl)) z0⟩)⟩⟩
  have hs : s = word false := by injection (of_decide_eq_true z0)
  refine ⟨_, rfl, ixT hx rfl ⟨_, rfl, ?_⟩⟩
  cases b with
  | true => exact iteF (iteF (kk g ⟨.inl, fun h => h.elim id fun z => by cases z.2.1⟩))
  | false =>
    refine iteT ⟨_, rfl, ixT ha rfl ⟨_, rfl, ixT ht hl ⟨_, rfl, ixT hx rfl ⟨rfl, _, rfl, ite2 (fun z1 => ?_) fun z1 => iteF (kk g ⟨.inl, fun h => h.elim id fun z => absurd (decide_eq_true (by rw [z.2.2.1])) z1⟩)⟩⟩⟩⟩
    refine ⟨_, rfl, ixT ha rfl (ixT ht h0 ⟨_, rfl, ixT hp rfl ⟨_, rfl, ixT ha0 hz ⟨rfl, _, rfl, ite2 (fun z2 => ?_) fun z2 => kk g ⟨.inl, fun h => h.elim id fun z => absurd (decide_eq_true (by rw [z.2.2.2])) z2⟩⟩⟩⟩)⟩
    exact kk true ⟨fun _ => .inr ⟨hs, rfl, V.int.inj (of_decide_eq_true z1), V.int.inj (of_decide_eq_true z2)⟩, fun _ => rfl⟩
theorem paper_oneA {D : Ends} {p q r a t x a0 r0 : Addr} {k : Int} {ys zs : List V} {g b : Bool} {s : Str} {v f l w : Int} (ha : H a = some (.tup [.str s, .ref t])) (ht : H t = some (.tup ys)) (h0 : atI ys 0 = some (.int f)) (hl : atI ys (-1) = some (.int l)) (hx : H x = some (.tup [.int v, .bl b])) (hp : H p = some (.tup [.ref a0, .ref r0])) (ha0 : H a0 = some (.tup zs)) (hz : atI zs k = some (.int w))
    (kk : ∀ g' : Bool, (g' = true ↔ g = true ∨ (s = word true ∧ b = true ∧ f = v ∧ l = w) ∨ (s = word false ∧ b = false ∧ l = v ∧ f = w)) → D.nx [some (.ref p), some (.ref q), some (.ref r), some (.int k), some (.ref a), some (.bl g'), some (.ref x)] H) :
    t_l_is_paperA_one K D [some (.ref p), some (.ref q), some (.ref r), some (.int k), some (.ref a), some (.bl g), some (.ref x)] H := by
  have two : ∀ g1 : Bool, (g1 = true ↔ g = true ∨ (s = word true ∧ b = true ∧ f = v ∧ l = w)) → t_l_is_paperA_two K D [some (.ref p), some (.ref q), some (.ref r), some (.int k), some (.ref a), some (.bl g1), some (.ref x)] H := fun g1 h1 =>
    paper_twoA ha ht h0 hl hx hp ha0 hz fun g2 h2 => kk g2 (h2.trans ((or_congr h1 Iff.rfl).trans or_assoc))
  refine ⟨_, rfl, ixT ha rfl ⟨rfl, _, rfl, ite2 (fun z0 => ?_) fun z0 => iteF (two g ⟨.inl, fun h => h.elim id fun z => absurd (decide_eq_true (by rw [z.1]; rfl)) z0⟩)⟩⟩
  have hs : s = word true := by injection (of_decide_eq_true z0)
  refine ⟨_, rfl, ixT hx rfl ⟨_, rfl, ?_⟩⟩
  cases b with
  | false => exact iteF (iteF (two g ⟨.inl, fun h => h.elim id fun z => by cases z.2.1⟩))
  | true =>
    refine iteT ⟨_, rfl, ixT ha rfl (ixT ht h0 ⟨_, rfl, ixT hx rfl ⟨rfl, _, rfl, ite2 (fun z1 => ?_) fun z1 => iteF (two g ⟨.inl, fun h => h.elim id fun z => absurd (decide_eq_true (by rw [z.2.2.1])) z1⟩)⟩⟩)⟩
    refine ⟨_, rfl, ixT ha rfl ⟨_, rfl, ixT ht hl ⟨_, rfl, ixT hp rfl ⟨_, rfl, ixT ha0 hz ⟨rfl, _, rfl, ite2 (fun z2 => ?_) fun z2 => two g ⟨.inl, fun h => h.elim id fun z => absurd (decide_eq_true (by rw [z.2.2.2])) z2⟩⟩⟩⟩⟩⟩
    exact two true ⟨fun _ => .inr ⟨hs, rfl, V.int.inj (of_decide_eq_true z1), V.int.inj (of_decide_eq_true z2)⟩, fun _ => rfl⟩
def isSD : Dt → Bool
  | .str _ => true
  | _ => false
theorem kit_strD (d : Dt) : kitB d.ty "str" = some (isSD d) := by
  cases d with
  | non => exact (show kitB "NoneType" "str" = some false by decide +kernel)
  | bl b => exact (show kitB "bool" "str" = some false by decide +kernel)
  | int i => exact (show kitB "int" "str" = some false by decide +kernel)
  | str z => exact (show kitB "str" "str" = some true by decide +kernel)
  | tup xs => exact (show kitB "tuple" "str" = some false by decide +kernel)
  | lst xs => exact (show kitB "list" "str" = some false by decide +kernel)
  | dct => exact (show kitB "dict" "str" = some false by decide +kernel)
theorem isiStr {x : V} {d : Dt} {σ : L2.St} (a : At H x d) (q : Q (.bl (isSD d)) H) : tCons (tC (.ty "str")) tNil σ H fun ys H2 => rIsi K (x :: ys) H2 Q := isi a.tyX (kit_strD d) q
theorem pure_l_is_paperA (h : sp_l_is_paperA K vs H Q E) : t_l_is_paperA K { nx := fun _ H' => Q .non H', rt := Q } (start N_l_is_paperA vs) H := by
  obtain ⟨p, q, x, d, ws, ls, ans, rfl, sh, g, hw, an, a, k⟩ := h
  obtain ⟨a0, r0, rs, hp, ha0, hr0, lk⟩ := id sh
  have no : ∀ H', Same H H' → ¬ RiP ws ls ans d → Q (.bl false) H' := fun H' s hn => by
    have := k H' s
    rw [bof_f hn] at this
    exact this
  refine ⟨_, rfl, isiTup a ⟨_, rfl, ?_⟩⟩
  cases hd : isTupD d with
  | false => exact iteT (no H (Same.refl _) fun ⟨ds, e, _⟩ => by rw [e] at hd; cases hd)
  | true =>
  refine iteF ?_
  obtain ⟨ds, rfl⟩ : ∃ ds, d = .tup ds := by
    cases d with
    | tup ds => exact ⟨ds, rfl⟩
    | _ => cases hd
  obtain ⟨r, xs, rfl, hr, hxl, hxz, hax⟩ := a.tup_inv
  refine ⟨_, rfl, lenT hr ⟨_, rfl, ixT hp rfl (lenT ha0 ⟨rfl, _, rfl, ite2 (fun z => ?_) fun z => ?_⟩)⟩⟩
  · rw [Bool.not_eq_true', decide_eq_false_iff_not] at z
    refine no H (Same.refl _) fun ⟨ds2, e, hl2, _⟩ => z ?_
    injection e with e
    rw [List.length_map, hxl, e, hl2]
  have hlen : ds.length = ws.length := by
    by_cases q : ds.length = ws.length
    · exact q
    · exfalso
      apply z
      rw [Bool.not_eq_true', decide_eq_false_iff_not]
      intro e
      have := V.int.inj e
      rw [List.length_map, hxl] at this
      exact q (by omega)
  clear z
  show t_l_is_paperA_rows K { nx := fun _ H' => Q .non H', rt := Q } [some (.ref p), some (.ref q), some (.ref r), none, none, none, none] H
  refine ⟨_, rfl, lenT hr ⟨_, rfl, (len_le (by omega)).1, (len_le (by omega)).2, ?_⟩⟩
  refine for_range (lo := 0) (n := (((xs.length : Nat) : Int)).toNat) (fun i σ H2 => Same H H2 ∧ (∀ (j : Nat) (w : Int) (e : Dt), j < i → ws[j]? = some w → ds[j]? = some e → shP ls ans w e) ∧ ∃ z3 z4 z5 z6 : Option V, σ = [some (.ref p), some (.ref q), some (.ref r), z3, z4, z5, z6]) ⟨.refl _, (fun j w e hj => absurd hj (Nat.not_lt_zero _)), none, none, none, none, rfl⟩ ?_ ?_
  · rintro i σ H2 hi ⟨s2, ok, z3, z4, z5, z6, rfl⟩
    rw [Int.toNat_natCast] at hi
    have hid : i < ds.length := by omega
    have ed := List.getElem?_eq_getElem hid
    have ew : ws[i]? = some (ws[i]'(by omega)) := List.getElem?_eq_getElem _
    have ex : xs[i]? = some xs[i] := List.getElem?_eq_getElem hi
    generalize ds[i] = e at ed
    generalize ws[i]'(by omega) = w at ew
    generalize xs[i] = y at ex
    have ay : At H2 y e := (hax i y e ex ed).mono s2
    have hwm := List.mem_of_getElem? ew
    have bad : ∀ H', Same H H' → ¬ shP ls ans w e → Q (.bl false) H' := fun H' s hn => no H' s fun ⟨ds2, q1, _, q2⟩ => by
      injection q1 with q1
      exact hn (q2 i w e ew (by rw [← q1]; exact ed))
    have next : ∀ H', Same H H' → shP ls ans w e → ∀ z3 z4 z5 z6 : Option V, (Same H H' ∧ (∀ (j : Nat) (w : Int) (e : Dt), j < i + 1 → ws[j]? = some w → ds[j]? = some e → shP ls ans w e) ∧ ∃ y3 y4 y5 y6 : Option V, [some (V.ref p), some (.ref q), some (.ref r), z3, z4, z5, z6] = [some (.ref p), some (.ref q), some (.ref r), y3, y4, y5, y6]) := fun H' s hs z3 z4 z5 z6 => ⟨s, fun j w' e' hj h1 h2 => by
      by_cases q : j = i
      · subst q
        rw [ew] at h1
        rw [ed] at h2
        rw [← Option.some.inj h1, ← Option.some.inj h2]
        exact hs
      · exact ok j w' e' (by omega) h1 h2, _, _, _, _, rfl⟩
    have top2 := s2 _ _ hr
    have ia : atI xs (0 + (i : Int)) = some y := by rw [show 0 + (i : Int) = (i : Int) by omega]; exact atI_nat ex
    show t_l_is_paperA_row K _ [some (.ref p), some (.ref q), some (.ref r), some (.int (0 + (i : Int))), z4, z5, z6] H2
    refine ⟨_, rfl, _, rfl, ixT top2 ia ?_⟩
    refine ⟨_, rfl, isiTup ay ⟨_, rfl, ?_⟩⟩
    cases hd2 : isTupD e with
    | false => exact iteT (bad H2 s2 fun ⟨e2, q1, _⟩ => by rw [q1] at hd2; cases hd2)
    | true =>
    refine iteF ?_
    obtain ⟨es, rfl⟩ : ∃ es, e = .tup es := by
      cases e with
      | tup es => exact ⟨es, rfl⟩
      | _ => cases hd2
    obtain ⟨a, ys, rfl, ha, hyl, hyz, hay⟩ := ay.tup_inv
    refine ⟨_, rfl, lenT ha ⟨rfl, _, rfl, ite2 (fun z => ?_) fun z => ?_⟩⟩
    · rw [Bool.not_eq_true', decide_eq_false_iff_not] at z
      refine bad H2 s2 fun ⟨e2, q1, _⟩ => z ?_
      injection q1 with q1
      rw [hyl, q1]
      rfl
    obtain ⟨e1, f1, rfl⟩ : ∃ e1 f1, es = [e1, f1] := by
      have l2 : es.length = 2 := by
        by_cases q : es.length = 2
        · exact q
        · exfalso
          apply z
          rw [Bool.not_eq_true', decide_eq_false_iff_not]
          intro h
          have := V.int.inj h
          omega
      match es, l2 with
      | [e1, f1], _ => exact ⟨e1, f1, rfl⟩
    clear z
    obtain ⟨y1, y2, rfl⟩ : ∃ y1 y2, ys = [y1, y2] := by
      match ys, hyl with
      | [y1, y2], _ => exact ⟨y1, y2, rfl⟩
    have a1 := hay 0 y1 e1 rfl rfl
    have a2 := hay 1 y2 f1 rfl rfl
    refine ⟨_, rfl, ixT ha rfl (isiStr a1 ⟨_, rfl, ?_⟩)⟩
    cases hs1 : isSD e1 with
    | false => exact iteT (bad H2 s2 fun h => by obtain ⟨b, wk, q1, _⟩ := shP_inv.mp h; rw [q1] at hs1; cases hs1)
    | true =>
    refine iteF ?_
    obtain ⟨s, rfl⟩ : ∃ s, e1 = .str s := by
      cases e1 with
      | str s => exact ⟨s, rfl⟩
      | _ => cases hs1
    have ey1 : y1 = .str s := by cases a1; rfl
    subst ey1
    show t_l_is_paperA_way K _ [some (.ref p), some (.ref q), some (.ref r), some (.int (0 + (i : Int))), some (.ref a), z5, z6] H2
    refine ⟨_, rfl, _, rfl, ixT ha rfl ⟨p, y2, f1, ws, ls, rfl, sh.mono (fun b xs z => s2 _ _ z), a2, fun H3 s3 => ⟨_, rfl, ?_⟩⟩⟩
    have s23 := s2.trans s3
    by_cases hwy : wyP ws ls f1
    case neg =>
      rw [bof_f hwy]
      exact iteT (bad H3 s23 fun h => by
        obtain ⟨b, wk, _, q2, gr⟩ := shP_inv.mp h
        exact hwy (by rw [q2]; exact gr.inn2 g hwm))
    rw [bof_t hwy]
    refine iteF ?_
    obtain ⟨wk, rfl, hpos, hin, hlk⟩ := hwy
    obtain ⟨t, rfl, ht, hz⟩ := At.to_ints a2
    show t_l_is_paperA_good K _ [some (.ref p), some (.ref q), some (.ref r), some (.int (0 + (i : Int))), some (.ref a), z5, z6] H3
    obtain ⟨as, hq, hal, has⟩ : AnsAt H3 q ans := an.mono fun b xs z => s23 _ _ z
    obtain ⟨f, ef⟩ : ∃ f, wk[0]? = some f := ⟨_, List.getElem?_eq_getElem hpos⟩
    obtain ⟨l, el⟩ : ∃ l, wk[wk.length - 1]? = some l := ⟨_, List.getElem?_eq_getElem (by omega)⟩
    have if0 : atI (wk.map V.int) 0 = some (.int f) := at_of (i := 0) ef
    have ifl : atI (wk.map V.int) (-1) = some (.int l) := by
      unfold atI ixN
      rw [List.length_map, if_neg (by decide), if_pos (by omega)]
      show (wk.map V.int)[(-1 + ((wk.length : Nat) : Int)).toNat]? = _
      rw [show (-1 + ((wk.length : Nat) : Int)).toNat = wk.length - 1 by omega, List.getElem?_map, el]
      rfl
    have iw : atI (ws.map V.int) (0 + (i : Int)) = some (.int w) := by rw [show 0 + (i : Int) = (i : Int) by omega]; exact at_of ew
    refine ⟨_, rfl, q, rfl, ⟨_, sqT hq⟩, ?_⟩
    refine for_tup (K := K) (a := q) (xs := as.map V.ref) (fun j σ H' => H' = H3 ∧ ∃ (gb : Bool) (z6 : Option V), σ = [some (.ref p), some (.ref q), some (.ref r), some (.int (0 + (i : Int))), some (.ref a), some (.bl gb), z6] ∧ (gb = true ↔ ∃ m v b, m < j ∧ ans[m]? = some (v, b) ∧ ((s = word true ∧ b = true ∧ f = v ∧ l = w) ∨ (s = word false ∧ b = false ∧ l = v ∧ f = w)))) ⟨rfl, false, _, rfl, ⟨(fun z => by cases z), fun ⟨m, _, _, hm, _⟩ => absurd hm (Nat.not_lt_zero _)⟩⟩ (fun j σ H' _ ⟨e, _⟩ => by rw [e]; exact sqT hq) ?_ ?_
    · rintro j x σ H' hx ⟨rfl, gb, z6, rfl, hg⟩
      obtain ⟨b, rfl, eb⟩ := ref_at hx
      have hj : j < ans.length := by rw [← hal]; exact (List.getElem?_eq_some_iff.mp eb).1
      have ee : ans[j]? = some ans[j] := List.getElem?_eq_getElem hj
      generalize ans[j] = y at ee
      obtain ⟨v, c⟩ := y
      refine paper_oneA (s3 _ _ ha) (s3 _ _ ht) if0 ifl (has j b _ eb ee) (s23 _ _ hp) (s23 _ _ ha0) iw fun g' hg' => ⟨rfl, g', _, rfl, hg'.trans ⟨fun h => ?_, fun ⟨m, v', c', hm, em, hc⟩ => ?_⟩⟩
      · rcases h with h | h
        · obtain ⟨m, v', c', hm, em, hc⟩ := hg.mp h
          exact ⟨m, v', c', by omega, em, hc⟩
        · exact ⟨j, v, c, by omega, ee, h⟩
      · by_cases q : m = j
        · subst q
          rw [ee] at em
          cases Option.some.inj em
          exact .inr hc
        · exact .inl (hg.mpr ⟨m, v', c', by omega, em, hc⟩)
    · rintro σ H' ⟨rfl, gb, z6, rfl, hg⟩
      rw [List.length_map] at hg
      show t_l_is_paperA_end K _ [some (.ref p), some (.ref q), some (.ref r), some (.int (0 + (i : Int))), some (.ref a), some (.bl gb), z6] H'
      refine ⟨_, rfl, _, rfl, ?_⟩
      cases gb with
      | true =>
        obtain ⟨m, v, c, _, em, hc⟩ := hg.mp rfl
        refine iteF (next H' s23 ?_ _ _ _ _)
        rcases hc with ⟨h1, h2, h3, h4⟩ | ⟨h1, h2, h3, h4⟩
        · exact shP_inv.mpr ⟨true, wk, by rw [h1], rfl, ⟨hpos, hlk, fun _ => ⟨⟨f, ef, by rw [h3, ← h2]; exact List.mem_of_getElem? em⟩, by rw [← h4]; exact el⟩, (fun z => by cases z)⟩⟩
        · exact shP_inv.mpr ⟨false, wk, by rw [h1], rfl, ⟨hpos, hlk, (fun z => by cases z), fun _ => ⟨by rw [← h4]; exact ef, l, el, by rw [h3, ← h2]; exact List.mem_of_getElem? em⟩⟩⟩
      | false =>
        refine iteT (bad H' s23 fun h => ?_)
        obtain ⟨b, wk', q1, q2, gr⟩ := shP_inv.mp h
        have e2 := chD_inj q2
        subst e2
        injection q1 with q1
        have : false = true := hg.mpr (by
          cases b with
          | true =>
            obtain ⟨⟨u, g1, g2⟩, g3⟩ := gr.up rfl
            rw [ef] at g1
            rw [el] at g3
            obtain ⟨m, hm⟩ := List.getElem?_of_mem g2
            exact ⟨m, u, true, by rw [hal]; exact (List.getElem?_eq_some_iff.mp hm).1, hm, .inl ⟨q1, rfl, Option.some.inj g1, Option.some.inj g3⟩⟩
          | false =>
            obtain ⟨g3, u, g1, g2⟩ := gr.dn rfl
            rw [el] at g1
            rw [ef] at g3
            obtain ⟨m, hm⟩ := List.getElem?_of_mem g2
            exact ⟨m, u, false, by rw [hal]; exact (List.getElem?_eq_some_iff.mp hm).1, hm, .inr ⟨q1, rfl, Option.some.inj g1, Option.some.inj g3⟩⟩)
        cases this
  · rintro σ H2 ⟨s2, ok, z3, z4, z5, z6, rfl⟩
    rw [Int.toNat_natCast] at ok
    have := k H2 s2
    rw [bof_t (show RiP ws ls ans (.tup ds) from ⟨ds, rfl, hlen, fun i w e h1 h2 => ok i w e (by have := (List.getElem?_eq_some_iff.mp h2).1; omega) h1 h2⟩)] at this
    exact this
theorem pure_l_walk (h : sp_l_walk K vs H Q E) : t_l_walk K { nx := fun _ H' => Q .non H', rt := Q } (start N_l_walk vs) H := by
  obtain ⟨c, D, p, ns, t, ws, ls, v, rfl, dk, sh, hl, ht, k⟩ := h
  refine ⟨_, rfl, by show (1 : Nat) ≤ sizeLine; decide, fun W nW => ?_⟩
  have d1 := dk.upd (o := .lst [.int v]) (dk.neC nW) (dk.neD nW)
  have k1 : Kp D H (upd H W (.lst [.int v])) := .new nW
  have hW1 : upd H W (.lst [.int v]) W = some (.lst (([v] : List Int).map V.int)) := updS
  have nWD := dk.neD nW
  have nWc := dk.neC nW
  have sh1 : ShapeAt (upd H W (.lst [.int v])) p ws ls := sh.mono fun b xs e => samNew nW _ _ e
  generalize upd H W (.lst [.int v]) = H1 at d1 k1 hW1 sh1
  dsimp only [tNil]
  show t_l_walk_loop K { nx := fun _ H' => Q .non H', rt := Q } [some (.ref D), some (.ref p), some (.int v), some (.ref W), none, none, none] H1
  refine ⟨_, rfl, c, D, ns, t, 5, rfl, d1, by omega, by decide, by decide, fun n H2 n0 n1 d2 fr2 => ⟨_, rfl, by omega, by omega, ?_⟩⟩
  have sh2 : ShapeAt H2 p ws ls := sh1.mono fun b xs e => (Kp.fr fr2).tup d1 b xs e
  refine for_range (lo := 0) (n := n.toNat) (fun i σ H' => Kp D H H' ∧ Dk c D ns (t + 1 + i) H' ∧ ShapeAt H' p ws ls ∧ (∃ wk : List Int, H' W = some (.lst (wk.map V.int)) ∧ wk ≠ [] ∧ wk.length ≤ i + 1) ∧ ∃ z4 z5 z6, σ = [some (.ref D), some (.ref p), some (.int v), some (.ref W), z4, z5, z6]) ⟨k1.trans (.fr fr2), d2, sh2, ⟨[v], by rw [fr2 _ nWD]; exact hW1, by simp, Nat.le_refl _⟩, _, _, _, rfl⟩ ?_ ?_
  · rintro i σ H3 hi ⟨kp, d3, ⟨a0, r0, rs, hp, ha0, hr0, lk⟩, ⟨wk, hW, ne, wl⟩, z4, z5, z6, rfl⟩
    have hi5 : i < 5 := by omega
    show t_l_walk_lows K _ [some (.ref D), some (.ref p), some (.int v), some (.ref W), some (.int (0 + (i : Int))), z5, z6] H3
    obtain ⟨lv, el⟩ : ∃ l, wk[wk.length - 1]? = some l := ⟨_, List.getElem?_eq_getElem (by have := List.length_pos_iff.mpr ne; omega)⟩
    have ifl : atI (wk.map V.int) (-1) = some (.int lv) := by
      have := List.length_pos_iff.mpr ne
      unfold atI ixN
      rw [List.length_map, if_neg (by decide), if_pos (by omega)]
      show (wk.map V.int)[(-1 + ((wk.length : Nat) : Int)).toNat]? = _
      rw [show (-1 + ((wk.length : Nat) : Int)).toNat = wk.length - 1 by omega, List.getElem?_map, el]
      rfl
    refine ⟨_, rfl, ixT hp rfl ⟨r0, rfl, ⟨_, sqT hr0⟩, fun L nL => ?_⟩⟩
    refine lc_tup (K := K) (a := r0) (xs := rs.map V.ref) (fun j H' => Same H3 H' ∧ ∃ ys : List Int, H' L = some (.lst (ys.map V.int)) ∧ ys.length ≤ j) ⟨samNew nL, [], updS, Nat.le_refl _⟩ (fun j H' _ q => sqT (q.1 _ _ hr0)) (fun j y H4 hy ⟨s4, ys, hL, hyl⟩ => ?_) (fun H4 ⟨s4, ys, hL, hyl⟩ => ?_)
    · obtain ⟨b, rfl, eb⟩ := ref_at hy
      have hj : j < ls.length := by rw [← lk.1]; exact (List.getElem?_eq_some_iff.mp eb).1
      have hb := s4 _ _ (lk.2 j b _ eb (List.getElem?_eq_getElem hj))
      refine ⟨rfl, ⟨_, rfl, ixT hb rfl ⟨_, rfl, _, rfl, ixL (s4 _ _ hW) ifl ⟨rfl, _, rfl, ?_⟩⟩⟩⟩
      refine ite2 (fun _ => ?_) fun _ => ⟨s4, ys, hL, by omega⟩
      refine ⟨_, rfl, ixT hb rfl ⟨_, hL, ?_, Same.updF s4 nL, ys ++ [ls[j].2], ?_, ?_⟩⟩
      · rw [List.length_map]
        exact Nat.lt_of_le_of_lt (show ys.length ≤ 10000 by omega) (by decide)
      · rw [updS, List.map_append]
        rfl
      · rw [List.length_append, List.length_singleton]
        omega
    · rw [List.length_map, lk.1] at hyl
      have kp4 : Kp D H H4 := kp.trans (.of_same s4)
      have d4 := d3.kp s4
      have sh4 : ShapeAt H4 p ws ls := ⟨a0, r0, rs, s4 _ _ hp, s4 _ _ ha0, s4 _ _ hr0, lk.1, fun j b l h1 h2 => s4 _ _ (lk.2 j b l h1 h2)⟩
      have nWL : W ≠ L := ne_of_none hW nL
      show t_l_walk_step K _ [some (.ref D), some (.ref p), some (.int v), some (.ref W), some (.int (0 + (i : Int))), some (.ref L), z6] H4
      refine ⟨_, rfl, lenL hL ⟨_, _, rfl, rfl, _, rfl, ite2 (fun e => ?_) fun _ => ⟨kp4, d4.le (by omega), sh4, ⟨wk, s4 _ _ hW, ne, by omega⟩, _, _, _, rfl⟩⟩⟩
      have hpos : 0 < ys.length := by
        have q : (0 : Int) < ((ys.map V.int).length : Int) := of_decide_eq_true e
        rw [List.length_map] at q
        omega
      refine ⟨_, rfl, .inl ⟨rfl, _, sqL (s4 _ _ hW)⟩, _, rfl, _, rfl, _, rfl, lenL hL ⟨c, D, ns, _, _, rfl, d4, by omega, by rw [List.length_map]; omega, by rw [List.length_map]; exact small100 (by omega), fun u H5 u0 u1 d5 fr5 => ?_⟩⟩
      rw [List.length_map] at u1
      obtain ⟨u, rfl⟩ := Int.eq_ofNat_of_zero_le u0
      have hu : ys[u]? = some ys[u] := List.getElem?_eq_getElem (by omega)
      have kp5 : Kp D H4 H5 := .fr fr5
      have hL5 := kp5 _ _ hL ((d3.neD nL))
      refine ixL hL5 (atI_nat (by rw [List.getElem?_map, hu]; rfl)) ⟨W, _, _, rfl, rfl, kp5 _ _ (s4 _ _ hW) nWD, ?_, ?_⟩
      · rw [List.length_map]
        exact Nat.lt_of_le_of_lt (show wk.length ≤ 10 by omega) (by decide)
      have hW0 : ∀ b o, H b = some o → b ≠ W := fun b o h => ne_of_none h nW
      refine ⟨fun b o h nb => updN (hW0 b o h) ((kp4.trans kp5) b o h nb), (d5.upd nWc nWD).le (by omega), sh4.mono fun b xs e => updN (ne_of (kp5.tup d4 b xs e) (kp5 _ _ (s4 _ _ hW) nWD) (by intro z; cases z)) (kp5.tup d4 b xs e), ⟨wk ++ [ys[u]], ?_, by simp, ?_⟩, _, _, _, rfl⟩
      · rw [updS, List.map_append]
        rfl
      · rw [List.length_append, List.length_singleton]
        omega
  · rintro σ H3 ⟨kp, d3, sh3, ⟨wk, hW, ne, wl⟩, z4, z5, z6, rfl⟩
    refine ⟨_, rfl, W, _, rfl, .inl ⟨sqL hW, fun q nq => ?_⟩⟩
    exact k q wk _ (kp.trans (.of_same (samNew nq))) ((d3.kp (samNew nq)).le (by omega)) updS (d3.neD nq) (by omega)
theorem pure_l_made_up (h : sp_l_made_up K vs H Q E) : t_l_made_up K { nx := fun _ H' => Q .non H', rt := Q } (start N_l_made_up vs) H := by
  obtain ⟨c, D, p, ns, t, ws, ls, rfl, dk, sh, hl, hw, ht, k⟩ := h
  refine ⟨by decide, fun T nT => ?_⟩
  have d1 := dk.upd (o := .lst []) (dk.neC nT) (dk.neD nT)
  have k1 : Kp D H (upd H T (.lst [])) := .new nT
  have hT1 : upd H T (.lst []) T = some (.lst (([] : List Addr).map V.ref)) := updS
  have nTD := dk.neD nT
  have nTc := dk.neC nT
  have sh1 : ShapeAt (upd H T (.lst [])) p ws ls := sh.mono fun b xs e => samNew nT _ _ e
  generalize upd H T (.lst []) = H1 at d1 k1 hT1 sh1
  dsimp only [tNil]
  show t_l_made_up_loop K { nx := fun _ H' => Q .non H', rt := Q } [some (.ref D), some (.ref p), some (.ref T), none, none, none] H1
  obtain ⟨a0, r0, rs, hp, ha0, hr0, lk⟩ := id sh1
  refine ⟨_, rfl, ixT hp rfl ⟨a0, rfl, ⟨_, sqT ha0⟩, ?_⟩⟩
  refine for_tup (K := K) (a := a0) (xs := ws.map V.int) (fun i σ H' => Kp D H H' ∧ Dk c D ns (t + 30 * i) H' ∧ ShapeAt H' p ws ls ∧ H' p = some (.tup [.ref a0, .ref r0]) ∧ H' a0 = some (.tup (ws.map V.int)) ∧ (∃ as : List Addr, H' T = some (.lst (as.map V.ref)) ∧ as.length = i ∧ ∀ a ∈ as, RwK D H' a) ∧ ∃ z3 z4 z5, σ = [some (.ref D), some (.ref p), some (.ref T), z3, z4, z5]) ⟨k1, d1, sh1, hp, ha0, ⟨[], hT1, rfl, fun a h => nomatch h⟩, _, _, _, rfl⟩ (fun i σ H' _ q => sqT q.2.2.2.2.1) ?_ ?_
  · rintro i y σ H2 hy ⟨kp, d2, sh2, hp2, ha2, ⟨as, hT2, al, ao⟩, z3, z4, z5, rfl⟩
    obtain ⟨w, rfl, ew⟩ := int_at hy
    have hi := (List.getElem?_eq_some_iff.mp ew).1
    refine ⟨_, rfl, ixT hp2 rfl ⟨_, rfl, _, rfl, ixT hp2 rfl (lenT ha2 ⟨c, D, ns, _, _, rfl, d2, by omega, by rw [List.length_map]; omega, by rw [List.length_map]; exact small100 (by omega), fun u H3 u0 u1 d3 fr3 => ?_⟩)⟩⟩
    rw [List.length_map] at u1
    obtain ⟨u, rfl⟩ := Int.eq_ofNat_of_zero_le u0
    have hu : ws[u]? = some ws[u] := List.getElem?_eq_getElem (by omega)
    have kp3 : Kp D H2 H3 := .fr fr3
    have tm3 := kp3.tup d2
    refine ixT (tm3 _ _ ha2) (atI_nat (by rw [List.getElem?_map, hu]; rfl)) ?_
    show t_l_made_up_up K _ [some (.ref D), some (.ref p), some (.ref T), some (.int w), some (.int ws[u]), z5] H3
    have sh3 : ShapeAt H3 p ws ls := sh2.mono tm3
    refine ⟨_, rfl, _, rfl, _, rfl, c, D, p, ns, _, ws, ls, _, rfl, d3, sh3, hl, by omega, fun q wk H4 kp4 d4 hq nqD wl => ?_⟩
    have tm4 := kp4.tup d3
    have sh4 : ShapeAt H4 p ws ls := sh3.mono tm4
    -- the row put down
    have add : ∀ (q : Addr) (wk : List Int) (t' : Nat) (H5 : Hp) (D1 : Ends), (∀ σ' H', (Kp D H H' ∧ Dk c D ns (t + 30 * (i + 1)) H' ∧ ShapeAt H' p ws ls ∧ H' p = some (.tup [.ref a0, .ref r0]) ∧ H' a0 = some (.tup (ws.map V.int)) ∧ (∃ as : List Addr, H' T = some (.lst (as.map V.ref)) ∧ as.length = i + 1 ∧ ∀ a ∈ as, RwK D H' a) ∧ ∃ z3 z4 z5, σ' = [some (.ref D), some (.ref p), some (.ref T), z3, z4, z5]) → D1.nx σ' H') → Kp D H2 H5 → Dk c D ns t' H5 → t' ≤ t + 30 * i + 25 → H5 q = some (.tup (wk.map V.int)) → q ≠ D → wk.length ≤ 10 →
        t_l_made_up_add K D1 [some (.ref D), some (.ref p), some (.ref T), some (.int w), some (.int ws[u]), some (.ref q)] H5 := by
      intro q wk t' H5 D1 kk kp5 d5 ht' hq nqD wl
      have hT5 := kp5 _ _ hT2 nTD
      refine ⟨_, rfl, .inl ⟨rfl, _, sqL hT5⟩, by show (2 : Nat) ≤ sizeLine; decide, fun O nO => ?_⟩
      have sO : Same H5 (upd H5 O (.lst [.str "held", .str "lacks"])) := samNew nO
      have hO : upd H5 O (.lst [.str "held", .str "lacks"]) O = some (.lst (([word true, word false] : List Str).map V.str)) := updS
      have nOD := d5.neD nO
      generalize upd H5 O (.lst [.str "held", .str "lacks"]) = H6 at sO hO
      have d6 := d5.kp sO
      dsimp only [tNil]
      refine ⟨_, rfl, c, D, ns, _, 2, rfl, d6, by omega, by decide, by decide, fun m H7 m0 m1 d7 fr7 => ?_⟩
      have kp7 : Kp D H6 H7 := .fr fr7
      have hO7 := kp7 _ _ hO nOD
      have at2 : ∃ s : Str, atI (([word true, word false] : List Str).map V.str) m = some (.str s) := by
        have : m = 0 ∨ m = 1 := by omega
        rcases this with rfl | rfl
        · exact ⟨_, rfl⟩
        · exact ⟨_, rfl⟩
      obtain ⟨s, es⟩ := at2
      refine ixL hO7 es ⟨_, rfl, by show (2 : Nat) ≤ sizeLine; decide, fun X nX => ?_⟩
      have hq7 := kp7 _ _ (sO _ _ hq) nqD
      have hT7 := kp7 _ _ (sO _ _ hT5) nTD
      have sX : Same H7 (upd H7 X (.tup [.str s, .ref q])) := samNew nX
      have hX : upd H7 X (.tup [.str s, .ref q]) X = some (.tup [.str s, .ref q]) := updS
      have nXD := d7.neD nX
      generalize upd H7 X (.tup [.str s, .ref q]) = H8 at sX hX
      have d8 := d7.kp sX
      refine ⟨T, _, _, rfl, rfl, sX _ _ hT7, by rw [List.length_map]; exact Nat.lt_of_le_of_lt (show as.length ≤ 1000 by omega) (by decide), kk _ _ ?_⟩
      have kp28 : Kp D H2 H8 := kp5.trans ((Kp.of_same sO).trans (kp7.trans (.of_same sX)))
      have tm8 := kp28.tup d2
      have tm9 : ∀ b xs, H8 b = some (.tup xs) → upd H8 T (.lst (as.map V.ref ++ [.ref X])) b = some (.tup xs) := fun b xs e => updN (ne_of e (sX _ _ hT7) (by intro z; cases z)) e
      have kp9 : Kp D H (upd H8 T (.lst (as.map V.ref ++ [.ref X]))) := fun b o h nb => updN (ne_of_none h nT) (kp28 b o (kp b o h nb) nb)
      refine ⟨kp9, (d8.upd nTc nTD).le (by omega), sh2.mono fun b xs e => tm9 b xs (tm8 b xs e), tm9 _ _ (tm8 _ _ hp2), tm9 _ _ (tm8 _ _ ha2), ⟨as ++ [X], by rw [updS, List.map_append]; rfl, by rw [List.length_append, al]; rfl, fun a ha => ?_⟩, _, _, _, rfl⟩
      rcases List.mem_append.mp ha with h | h
      · exact (ao a h).mono fun b xs e => tm9 b xs (tm8 b xs e)
      · rw [List.mem_singleton.mp h]
        exact ⟨s, q, wk, nXD, tm9 _ _ hX, nqD, tm9 _ _ (sX _ _ hq7), wl⟩
    have kp24 : Kp D H2 H4 := kp3.trans kp4
    show t_l_made_up_two K _ [some (.ref D), some (.ref p), some (.ref T), some (.int w), some (.int ws[u]), some (.ref q)] H4
    refine ⟨_, rfl, c, D, ns, _, 2, rfl, d4, by omega, by decide, by decide, fun m H5 m0 m1 d5 fr5 => ⟨rfl, _, rfl, ?_⟩⟩
    have kp5 : Kp D H4 H5 := .fr fr5
    refine ite2 (fun _ => ?_) fun _ => add q wk _ H5 _ (fun _ _ z => z) (kp24.trans kp5) d5 (by omega) (kp5 _ _ hq nqD) nqD wl
    refine ⟨_, rfl, _, rfl, _, rfl, c, D, p, ns, _, ws, ls, _, rfl, d5, sh4.mono (kp5.tup d4), hl, by omega, fun q2 wk2 H6 kp6 d6 hq2 nq2D wl2 => ?_⟩
    exact add q2 wk2 _ H6 _ (fun _ _ z => z) (kp24.trans (kp5.trans kp6)) d6 (by omega) hq2 nq2D wl2
  · rintro σ H2 ⟨kp, d2, sh2, hp2, ha2, ⟨as, hT2, al, ao⟩, z3, z4, z5, rfl⟩
    rw [List.length_map] at al d2
    refine ⟨_, rfl, T, _, rfl, .inl ⟨sqL hT2, fun q nq => ?_⟩⟩
    have s3 : Same H2 (upd H2 q (.tup (as.map V.ref))) := samNew nq
    refine k (.ref q) _ (kp.trans (.of_same s3)) ((d2.kp s3).le (by omega)) (.tup (d2.neD nq) updS (by rw [List.length_map]; omega) fun y hy => ?_)
    obtain ⟨a, ha, rfl⟩ := List.mem_map.mp hy
    exact (ao a ha).ok.mono (.of_same s3) (Nat.le_refl _)
end
end Fw

set_option Elab.async false
set_option linter.all false
set_option maxRecDepth 100000
set_option maxHeartbeats 4000000
namespace Fw
open PySem L2 RZ RT
theorem RowsAt.mono {H H' : Hp} {R : Addr} {ws ds : List Int} {ls : List (Int × Int)} {as : List Addr} (h : RowsAt H R ws ls ds as) (s : ∀ b o, H b = some o → (b = R ∨ b ∈ as) → H' b = some o) : RowsAt H' R ws ls ds as :=
  ⟨h.1, s _ _ h.2.1 (.inl rfl), fun i v a h1 h2 => s _ _ (h.2.2 i v a h1 h2) (.inr (List.mem_of_getElem? h2))⟩
end Fw

set_option Elab.async false
set_option linter.all false
set_option maxRecDepth 100000
set_option maxHeartbeats 4000000
namespace Fw
open PySem L2 RZ RT
def fInsert : V → List V → Hp → VK → Prop := fun x vs H Q => ∃ (l : Addr) (xs : List V) (i : Int) (y : V), x = .ref l ∧ vs = [.int i, y] ∧ H l = some (.lst xs) ∧ xs.length < sizeLine ∧ 0 ≤ i ∧ i < 2 ^ 63 ∧ Q .non (upd H l (.lst (xs.take i.toNat ++ [y] ++ xs.drop i.toNat)))
/-- a for over the keys of a locked dict -/
theorem for_keysK {d : Addr} {o : Obj} {kvs : List (Key × V)} {g : TG} {tb : TS} {D : Ends} {σ : L2.St} {H : Hp} (Pv : Nat → L2.St → Hp → Prop) (h0 : Pv 0 σ H) (hl : ∀ i σ H, Pv i σ H → H d = some (.frz o (.dK kvs)))
    (hs : ∀ (i : Nat) (k : Key) (v : V) (σ : L2.St) (H : Hp), kvs[i]? = some (k, v) → Pv i σ H → g (kV k) σ H fun σ2 H2 => tb { D with nx := Pv (i + 1), ct := Pv (i + 1), bk := D.nx } σ2 H2) (hd : ∀ σ H, Pv kvs.length σ H → D.nx σ H) :
    ∃ W : Nat → Nat → L2.St → Hp → Prop, (∃ m, W 0 m σ H) ∧ ∀ i m σ H, W i m σ H →
      ((Itk d o kvs).stop i H ∧ D.nx σ H) ∨ ((Itk d o kvs).go i H ∧ ∃ N : L2.St → Hp → Prop, (∀ σ' H', N σ' H' → ∃ m', m' < m ∧ W (i + 1) m' σ' H') ∧ ∀ x H', (Itk d o kvs).yld i H x H' → g x σ H' fun σ2 H2 => tb { D with nx := N, ct := N, bk := D.nx } σ2 H2) := by
  refine ⟨fun i m σ H => m = kvs.length - i ∧ i ≤ kvs.length ∧ Pv i σ H, ⟨kvs.length, by simp, Nat.zero_le _, h0⟩, ?_⟩
  rintro i m σ H ⟨rfl, hi, p⟩
  have q := hl i σ H p
  by_cases hlt : i < kvs.length
  · refine .inr ⟨⟨q, hlt⟩, Pv (i + 1), fun σ' H' p' => ⟨kvs.length - (i + 1), by omega, rfl, hlt, p'⟩, fun x H' y => ?_⟩
    obtain ⟨e, k, v, e2, e3⟩ := y
    subst e e3
    exact hs i k v σ _ e2 p
  · have e : i = kvs.length := by omega
    subst e
    exact .inl ⟨⟨q, Nat.le_refl _⟩, hd σ H p⟩
theorem rows_get {ws : List Int} {as : List Addr} {i : Nat} {k : Key} {v : V} (hl : as.length = ws.length) (h : (rowsKV ws as)[i]? = some (k, v)) : ∃ w a, ws[i]? = some w ∧ as[i]? = some a ∧ k = Sum.inl w ∧ v = .ref a := by
  unfold rowsKV at h
  rw [List.getElem?_zipWith] at h
  cases e1 : ws[i]? with
  | none => rw [e1] at h; cases h
  | some w =>
    cases e2 : as[i]? with
    | none => rw [e1, e2] at h; cases h
    | some a =>
      rw [e1, e2] at h
      have := Prod.mk.inj (Option.some.inj h)
      exact ⟨w, a, rfl, rfl, this.1.symm, this.2.symm⟩
/-! ### a holding that has with each version all below it -/
def sp_l_lower (_ : PySem.W.Frag) : Sp := fun vs H Q _ => ∃ (c D R : Addr) (ns : List Int) (t : Nat) (ws : List Int) (ls : List (Int × Int)) (as : List Addr), vs = [.ref D, .ref R] ∧ Dk c D ns t H ∧ RowsAt H R ws ls ws as ∧ (∀ a ∈ as, a ≠ D) ∧ Good ws ls ∧ ws.length ≤ 60 ∧ t + 100 < 1000000000 ∧
  ∀ (S : Addr) (fs : List Int) (H' : Hp), Kp D H H' → Dk c D ns (t + 100) H' → H S = none → H' S = some (.lst (fs.map V.int)) → (∀ x ∈ fs, ∀ y, Dn ls x y → y ∈ fs) → (∀ x ∈ fs, x ∈ ws) → fs.Pairwise (· < ·) → Q (.ref S) H'
abbrev N_l_lower : List Str := ["_law_deck_here", "_law_rows", "_law_held", "_law_version", "_law_low"]
def t_l_lower (K : PySem.W.Frag) : TS := (tSeq (tAsg tDNewK (gName 2))
    (tSeq (tLock (tFor (iKeys (tVar 1)) (gName 3) (tIfS (tTest (tOp rEq (tCall (sp_l_draw K) [] E0 (tCons (tVar 0) (tCons (tC (.int 3)) tNil))) (tC (.int 0)))) (tFor (iList K (tDGet (tVar 1) (tVar 3))) (gName 4) (sDPut (tVar 2) (tVar 4) (tC (.bl true)))) tNext)))
    (tRet (tCB fSortD (tCons (tVar 2) tNil)))))
section
variable {K : PySem.W.Frag} {vs : List V} {H : Hp} {Q : VK} {E : XK}
theorem len_l_lower (h : sp_l_lower K vs H Q E) : vs.length = 2 := by
  obtain ⟨_, _, _, _, _, _, _, _, rfl, _⟩ := h
  rfl
theorem pure_l_lower (h : sp_l_lower K vs H Q E) : t_l_lower K { nx := fun _ H' => Q .non H', rt := Q } (start N_l_lower vs) H := by
  obtain ⟨c, D, R, ns, t, ws, ls, as, rfl, dk, ⟨hal, hR, hrow⟩, haD, g, hw, ht, k⟩ := h
  refine fun F nF => ?_
  have nRD : R ≠ D := by
    obtain ⟨xs, e⟩ := dk.someD
    exact ne_of hR e (by intro z; cases z)
  have nRc : R ≠ c := by
    obtain ⟨xs, e⟩ := dk.someC
    exact ne_of hR e (by intro z; cases z)
  have nRF : R ≠ F := ne_of_none hR nF
  have hkl : (rowsKV ws as).length = ws.length := rowsKV_length hal
  refine ⟨R, .dK (rowsKV ws as), updN nRF hR, trivial, fun od => ?_⟩
  refine ⟨_, rfl, R, od, rfl, .inl ⟨rowsKV ws as, updS, ?_⟩⟩
  refine for_keysK (d := R) (o := od) (kvs := rowsKV ws as) (fun i σ H' => ∃ (fs : List Int) (z3 z4 : Option V), σ = [some (.ref D), some (.ref R), some (.ref F), z3, z4] ∧ Dk c D ns (t + i) H' ∧ H' R = some (.frz od (.dK (rowsKV ws as))) ∧ H' F = some (.dK (mkS fs)) ∧ (∀ b o, H b = some o → b ≠ D → b ≠ R → H' b = some o) ∧
    fs.Nodup ∧ (∀ x ∈ fs, ∀ y, Dn ls x y → y ∈ fs) ∧ ∀ x ∈ fs, x ∈ ws) ?_ ?_ ?_ ?_
  · refine ⟨[], none, none, rfl, (dk.upd (dk.neC nF) (dk.neD nF)).upd nRc nRD, updS, updN nRF.symm updS, fun b o e n1 n2 => updN n2 (updN (ne_of_none e nF) e), .nil, (fun x hx => nomatch hx), (fun x hx => nomatch hx)⟩
  · rintro i σ H' ⟨_, _, _, _, _, h1, _⟩
    exact h1
  · rintro i kk v σ H1 hkv ⟨fs, z3, z4, rfl, d1, hR1, hF1, kp1, nd, cl, sub⟩
    obtain ⟨w, a, ew, ea, rfl, rfl⟩ := rows_get hal hkv
    have hi : i < ws.length := (List.getElem?_eq_some_iff.mp ew).1
    have hwm : w ∈ ws := List.mem_of_getElem? ew
    have nFD : F ≠ D := dk.neD nF
    refine ⟨_, rfl, c, D, ns, t + i, 3, rfl, d1, by omega, by decide, by decide, fun y H2 y0 y1 d2 fr2 => ⟨rfl, _, rfl, ite2 (fun _ => ?_) (fun _ => ?_)⟩⟩
    · have hR2 : H2 R = some (.frz od (.dK (rowsKV ws as))) := by rw [fr2 _ nRD]; exact hR1
      have hF2 : H2 F = some (.dK (mkS fs)) := by rw [fr2 _ nFD]; exact hF1
      have hlist : H a = some (.lst ((belowL ws ls w).map V.int)) := hrow i w a ew ea
      have naD := haD a (List.mem_of_getElem? ea)
      have naR : a ≠ R := ne_of hlist hR (by intro z; cases z)
      have naF : a ≠ F := ne_of_none hlist nF
      have hlist2 : H2 a = some (.lst ((belowL ws ls w).map V.int)) := by rw [fr2 _ naD]; exact kp1 _ _ hlist naD naR
      refine ⟨_, rfl, _, rfl, R, .ref a, rfl, .inl ⟨_, Sum.inl w, .inr ⟨od, hR2⟩, rfl, (rows_val (rising_nodup g.inc) ew ea).symm⟩, a, rfl, ⟨_, sqL hlist2⟩, ?_⟩
      refine for_list (K := K) (a := a) (xs := (belowL ws ls w).map V.int) (fun n σ H' => ∃ z4 : Option V, σ = [some (.ref D), some (.ref R), some (.ref F), some (.int w), z4] ∧ H' = upd H2 F (.dK (mkS (insAll fs ((belowL ws ls w).take n))))) ?_ ?_ ?_ ?_
      · refine ⟨z4, rfl, ?_⟩
        rw [List.take_zero]
        funext b
        by_cases e : b = F
        · rw [e, updS, hF2]
          rfl
        · rw [upd_ne e]
      · rintro n σ H' _ ⟨_, _, rfl⟩
        exact sqL (updN naF hlist2)
      · rintro n x σ H' hx ⟨z4, rfl, rfl⟩
        rw [List.getElem?_map] at hx
        cases eu : (belowL ws ls w)[n]? with
        | none => rw [eu] at hx; cases hx
        | some u =>
          rw [eu] at hx
          cases Option.some.inj hx
          have hlen : (mkS (insAll fs ((belowL ws ls w).take n))).length < sizeLine := by
            rw [mkS_length]
            have := length_sub (vs := ws) (nodup_insAll (ns := (belowL ws ls w).take n) nd) fun y hy => by
              rcases mem_insAll.mp hy with hy | hy
              · exact sub y hy
              · exact ((mem_belowL g hwm).mp (List.mem_of_mem_take hy)).mem g hwm
            exact Nat.lt_of_le_of_lt (show _ ≤ 1000 by omega) (by decide)
          refine ⟨_, rfl, _, rfl, F, _, rfl, DPut.k (k := Sum.inl u) updS hlen, _, rfl, ?_⟩
          rw [upd_upd, mkS_put, take_snoc eu, insAll_snoc]
      · rintro σ H' ⟨z4, rfl, rfl⟩
        rw [List.length_map, List.take_length]
        refine ⟨insAll fs (belowL ws ls w), _, _, rfl, (d2.upd (by obtain ⟨xs, e⟩ := d2.someC; exact ne_of hF2 e (by intro z; cases z)) nFD), updN nRF hR2, updS, fun b o e n1 n2 => updN (ne_of_none e nF) (by rw [fr2 _ n1]; exact kp1 b o e n1 n2), nodup_insAll nd, fun x hx y d => ?_, fun x hx => ?_⟩
        · rcases mem_insAll.mp hx with hx | hx
          · exact mem_insAll.mpr (.inl (cl x hx y d))
          · exact mem_insAll.mpr (.inr ((mem_belowL g hwm).mpr (((mem_belowL g hwm).mp hx).trans d)))
        · rcases mem_insAll.mp hx with hx | hx
          · exact sub x hx
          · exact ((mem_belowL g hwm).mp hx).mem g hwm
    · exact ⟨fs, _, _, rfl, d2, by rw [fr2 _ nRD]; exact hR1, by rw [fr2 _ nFD]; exact hF1, fun b o e n1 n2 => by rw [fr2 _ n1]; exact kp1 b o e n1 n2, nd, cl, sub⟩
  · rintro σ H1 ⟨fs, z3, z4, rfl, d1, hR1, hF1, kp1, nd, cl, sub⟩
    rw [hkl] at d1
    refine ⟨hR1, ?_⟩
    have hF2 : upd H1 R (.dK (rowsKV ws as)) F = some (.dK (mkS fs)) := updN nRF.symm hF1
    have hfl := length_sub nd sub
    refine ⟨_, rfl, F, mkS fs, fs, rfl, .inl hF2, mkS_keys fs, by omega, fun ys S py sy nS => ?_⟩
    have d2 : Dk c D ns (t + ws.length) (upd H1 R (.dK (rowsKV ws as))) := d1.upd nRc nRD
    have kp2 : Kp D H (upd H1 R (.dK (rowsKV ws as))) := fun b o e n => by
      by_cases hb : b = R
      · subst hb
        rw [hR] at e
        cases e
        exact updS
      · exact updN hb (kp1 b o e n hb)
    refine k S ys _ (kp2.trans (.new nS)) ((d2.upd (d2.neC nS) (d2.neD nS)).le (by omega)) (kp2.free nS (d2.neD nS)) updS (fun x hx y d => py.mem_iff.mpr (cl x (py.mem_iff.mp hx) y d)) (fun x hx => sub x (py.mem_iff.mp hx)) (rising_of sy (py.nodup_iff.mpr nd))
end
/-! ### answers, right for a holding -/
/-- where one list of answers grows -/
structure AI (H0 : Hp) (c D L : Addr) (ns : List Int) (t : Nat) (as : List Addr) (ans : List (Int × Bool)) (H : Hp) : Prop where
  dk : Dk c D ns t H
  keep : Kp D H0 H
  hl : H L = some (.lst (as.map V.ref))
  len : as.length = ans.length
  pr : ∀ (i : Nat) (a : Addr) (e : Int × Bool), as[i]? = some a → ans[i]? = some e → H a = some (.tup [.int e.1, .bl e.2])
  d0 : ∃ t0, Dk c D ns t0 H0
  l0 : H0 L = none
section
variable {H0 H H' : Hp} {c D L q : Addr} {ns : List Int} {t t' : Nat} {as : List Addr} {ans : List (Int × Bool)} {o : HO}
theorem AI.lD (s : AI H0 c D L ns t as ans H) : L ≠ D := s.d0.choose_spec.neD s.l0
theorem AI.lC (s : AI H0 c D L ns t as ans H) : L ≠ c := s.d0.choose_spec.neC s.l0
theorem AI.draw (s : AI H0 c D L ns t as ans H) (d : Dk c D ns t' H') (f : ∀ b, b ≠ D → H' b = H b) : AI H0 c D L ns t' as ans H' :=
  ⟨d, s.keep.trans (.fr f), by rw [f _ s.lD]; exact s.hl, s.len, fun i a e h1 h2 => (Kp.fr f).tup s.dk _ _ (s.pr i a e h1 h2), s.d0, s.l0⟩
theorem AI.new (s : AI H0 c D L ns t as ans H) (n : H q = none) : AI H0 c D L ns t as ans (upd H q o) :=
  ⟨s.dk.upd (s.dk.neC n) (s.dk.neD n), s.keep.trans (.new n), updN (ne_of_none s.hl n) s.hl, s.len, fun i a e h1 h2 => updN (ne_of_none (s.pr i a e h1 h2) n) (s.pr i a e h1 h2), s.d0, s.l0⟩
theorem AI.le (s : AI H0 c D L ns t as ans H) (h : t ≤ t') : AI H0 c D L ns t' as ans H := ⟨s.dk.le h, s.keep, s.hl, s.len, s.pr, s.d0, s.l0⟩
theorem ins_get {α : Type} {l : List α} {k i : Nat} {x y : α} (hk : k ≤ l.length) (h : (l.take k ++ [x] ++ l.drop k)[i]? = some y) : (i = k ∧ y = x) ∨ (i < k ∧ l[i]? = some y) ∨ (k < i ∧ l[i - 1]? = some y) := by
  have hl : (l.take k).length = k := by rw [List.length_take]; omega
  rw [List.append_assoc] at h
  by_cases h1 : i < k
  · rw [List.getElem?_append_left (by omega), List.getElem?_take_of_lt h1] at h
    exact .inr (.inl ⟨h1, h⟩)
  · rw [List.getElem?_append_right (by omega), hl] at h
    by_cases h2 : i = k
    · subst h2
      rw [Nat.sub_self] at h
      exact .inl ⟨rfl, (Option.some.inj h).symm⟩
    · obtain ⟨m, hm⟩ : ∃ m, i - k = m + 1 := ⟨i - k - 1, by omega⟩
      rw [hm] at h
      have h3 : (l.drop k)[m]? = some y := h
      rw [List.getElem?_drop] at h3
      refine .inr (.inr ⟨by omega, ?_⟩)
      rw [show i - 1 = k + m by omega]
      exact h3
theorem ins_perm {α : Type} (l : List α) (k : Nat) (x : α) : (l.take k ++ [x] ++ l.drop k).Perm (x :: l) := by
  rw [List.append_assoc]
  have := List.perm_middle (a := x) (l₁ := l.take k) (l₂ := l.drop k)
  rw [List.take_append_drop] at this
  exact this
theorem AI.ins (s : AI H0 c D L ns t as ans H) {T : Addr} {e : Int × Bool} (hT : H T = some (.tup [.int e.1, .bl e.2])) {k : Nat} (hk : k ≤ as.length) : AI H0 c D L ns t (as.take k ++ [T] ++ as.drop k) (ans.take k ++ [e] ++ ans.drop k) (upd H L (.lst ((as.map V.ref).take k ++ [.ref T] ++ (as.map V.ref).drop k))) := by
  refine ⟨s.dk.upd s.lC s.lD, fun b u e n => updN (ne_of_none e s.l0) (s.keep b u e n), ?_, ?_, fun i a e' h1 h2 => ?_, s.d0, s.l0⟩
  · rw [updS, List.map_append, List.map_append, List.map_take, List.map_drop]
    rfl
  · rw [(ins_perm as k T).length_eq, (ins_perm ans k e).length_eq, List.length_cons, List.length_cons, s.len]
  · have hk2 : k ≤ ans.length := by rw [← s.len]; exact hk
    have main : H a = some (.tup [.int e'.1, .bl e'.2]) := by
      rcases ins_get hk h1 with ⟨h3, rfl⟩ | ⟨h3, h4⟩ | ⟨h3, h4⟩
      · rcases ins_get hk2 h2 with ⟨h5, rfl⟩ | ⟨h5, h6⟩ | ⟨h5, h6⟩
        · exact hT
        · omega
        · omega
      · rcases ins_get hk2 h2 with ⟨h5, rfl⟩ | ⟨h5, h6⟩ | ⟨h5, h6⟩
        · omega
        · exact s.pr i a e' h4 h6
        · omega
      · rcases ins_get hk2 h2 with ⟨h5, rfl⟩ | ⟨h5, h6⟩ | ⟨h5, h6⟩
        · omega
        · omega
        · exact s.pr (i - 1) a e' h4 h6
    exact updN (ne_of main s.hl (by intro z; cases z)) main
end
def sp_l_answers (_ : PySem.W.Frag) : Sp := fun vs H Q _ => ∃ (c D p S : Addr) (ns : List Int) (t : Nat) (ws : List Int) (ls : List (Int × Int)) (fs : List Int), vs = [.ref D, .ref p, .ref S] ∧ Dk c D ns t H ∧ ShapeAt H p ws ls ∧ Good ws ls ∧ H S = some (.lst (fs.map V.int)) ∧ S ≠ D ∧ ws.length ≤ 60 ∧ t + 200 < 1000000000 ∧
  ∀ (q : Addr) (ans : List (Int × Bool)) (H' : Hp), Kp D H H' → Dk c D ns (t + 200) H' → AnsAt H' q ans → (∀ e ∈ ans, e.1 ∈ ws ∧ e.2 = fs.contains e.1) → (ans.map (·.1)).Nodup → ans.length ≤ ws.length → Q (.ref q) H'
abbrev N_l_answers : List Str := ["_law_deck_here", "_law_web", "_law_held", "_law_told", "_law_version"]
def t_l_answers (K : PySem.W.Frag) : TS := (tSeq (tAsg (tLst tNil) (gName 3))
    (tSeq (tFor (iTup K (tOp (rIx K) (tVar 1) (tC (.int 0)))) (gName 4) (tIfS (tTest (tOp rGtI (tCall (sp_l_draw K) [] E0 (tCons (tVar 0) (tCons (tC (.int 3)) tNil))) (tC (.int 0)))) (tDrop (tBM K "list" fInsert (tVar 3) (tCons (tCall (sp_l_draw K) [] E0 (tCons (tVar 0) (tCons (tOp rAddI (tCB (fLen K) (tCons (tVar 3) tNil)) (tC (.int 1))) tNil))) (tCons (tTup (tCons (tVar 4) (tCons (tOp (rIn K false) (tVar 4) (tVar 2)) tNil))) tNil)))) tNext))
    (tRet (tCB (fTupleOf K) (tCons (tVar 3) tNil)))))
section
variable {K : PySem.W.Frag} {vs : List V} {H : Hp} {Q : VK} {E : XK}
theorem len_l_answers (h : sp_l_answers K vs H Q E) : vs.length = 3 := by
  obtain ⟨_, _, _, _, _, _, _, _, _, rfl, _⟩ := h
  rfl
theorem pure_l_answers (h : sp_l_answers K vs H Q E) : t_l_answers K { nx := fun _ H' => Q .non H', rt := Q } (start N_l_answers vs) H := by
  obtain ⟨c, D, p, S, ns, t, ws, ls, fs, rfl, dk, ⟨a0, r0, rs, hp, ha0, hr0, lk⟩, g, hS, nSD, hw, ht, k⟩ := h
  refine ⟨Nat.zero_le _, fun L nL => ?_⟩
  have s0 : AI H c D L ns t [] [] (upd H L (.lst [])) := ⟨dk.upd (dk.neC nL) (dk.neD nL), .new nL, updS, rfl, (fun i a e h1 _ => by cases h1), ⟨t, dk⟩, nL⟩
  refine ⟨_, rfl, ixT (s0.keep.tup dk _ _ hp) rfl ⟨a0, rfl, ⟨_, sqT (s0.keep.tup dk _ _ ha0)⟩, ?_⟩⟩
  refine for_tup (K := K) (a := a0) (xs := ws.map V.int) (fun i σ H' => ∃ (as : List Addr) (ans : List (Int × Bool)) (z4 : Option V), σ = [some (.ref D), some (.ref p), some (.ref S), some (.ref L), z4] ∧ AI H c D L ns (t + 2 * i) as ans H' ∧ (∀ e ∈ ans, e.1 ∈ ws.take i ∧ e.2 = fs.contains e.1) ∧ (ans.map (·.1)).Nodup ∧ ans.length ≤ i) ?_ ?_ ?_ ?_
  · exact ⟨[], [], none, rfl, s0, (fun e he => nomatch he), .nil, Nat.le_refl _⟩
  · rintro i σ H' _ ⟨_, _, _, _, s, _⟩
    exact sqT (s.keep.tup dk _ _ ha0)
  · rintro i x σ H1 hx ⟨as, ans, z4, rfl, s, hm, nd, hlen⟩
    rw [List.getElem?_map] at hx
    cases ew : ws[i]? with
    | none => rw [ew] at hx; cases hx
    | some w =>
      rw [ew] at hx
      cases Option.some.inj hx
      have hi : i < ws.length := (List.getElem?_eq_some_iff.mp ew).1
      have tk : ws.take (i + 1) = ws.take i ++ [w] := take_snoc ew
      refine ⟨_, rfl, c, D, ns, _, 3, rfl, s.dk, by omega, by decide, by decide, fun y H2 y0 y1 d2 fr2 => ⟨_, _, rfl, rfl, _, rfl, ite2 (fun _ => ?_) (fun _ => ?_)⟩⟩
      · have s2 := s.draw d2 fr2
        refine ⟨_, rfl, .inl ⟨rfl, _, sqL s2.hl⟩, _, rfl, _, rfl, lenL s2.hl ⟨_, _, rfl, rfl, c, D, ns, _, _, rfl, s2.dk, by omega, by omega, small100 (by rw [List.length_map, s2.len]; omega), fun j H3 j0 j1 d3 fr3 => ?_⟩⟩
        have s3 := s2.draw d3 fr3
        rw [List.length_map] at j1
        have hS3 : H3 S = some (.lst (fs.map V.int)) := s3.keep _ _ hS nSD
        refine ⟨_, rfl, _, rfl, _, rfl, S, _, rfl, .inl (sqL hS3), rfl, flat_ints fs, ?_⟩
        refine ⟨by show (2 : Nat) ≤ sizeLine; decide, fun T nT => ?_⟩
        have s4 : AI H c D L ns _ as ans (upd H3 T (.tup [.int w, .bl (inV (.int w) (fs.map V.int))])) := s3.new nT
        refine ⟨L, _, j, _, rfl, rfl, s4.hl, ?_, j0, (by have := s2.len; omega), ?_⟩
        · rw [List.length_map, s4.len]
          exact Nat.lt_of_le_of_lt (show _ ≤ 1000 by omega) (by decide)
        · have s5 := s4.ins (T := T) (e := (w, fs.contains w)) (by rw [updS, inV_ints]) (k := j.toNat) (by omega)
          refine ⟨_, _, _, rfl, s5.le (by omega), fun e he => ?_, ?_, ?_⟩
          · rw [tk]
            rcases List.mem_cons.mp ((ins_perm ans j.toNat (w, fs.contains w)).mem_iff.mp he) with rfl | he
            · exact ⟨List.mem_append_right _ (List.mem_singleton.mpr rfl), rfl⟩
            · exact ⟨List.mem_append_left _ (hm e he).1, (hm e he).2⟩
          · have pm := (ins_perm ans j.toNat (w, fs.contains w)).map (·.1)
            refine pm.nodup_iff.mpr (List.nodup_cons.mpr ⟨fun hw2 => ?_, nd⟩)
            obtain ⟨e, he, ee⟩ := List.mem_map.mp hw2
            have := (hm e he).1
            rw [ee] at this
            obtain ⟨m, hm2, em⟩ := List.getElem_of_mem this
            rw [List.length_take] at hm2
            rw [List.getElem_take] at em
            have h1 := List.getElem?_eq_some_iff.mp ew
            have := (List.getElem_inj (rising_nodup g.inc)).mp (em.trans h1.2.symm)
            omega
          · rw [(ins_perm ans j.toNat (w, fs.contains w)).length_eq, List.length_cons]
            omega
      · refine ⟨as, ans, _, rfl, (s.draw d2 fr2).le (by omega), fun e he => ⟨?_, (hm e he).2⟩, nd, by omega⟩
        rw [tk]
        exact List.mem_append_left _ (hm e he).1
  · rintro σ H1 ⟨as, ans, z4, rfl, s, hm, nd, hlen⟩
    rw [List.length_map] at s hm hlen
    refine ⟨_, rfl, L, _, rfl, .inl ⟨sqL s.hl, fun q nq => ?_⟩⟩
    have s2 : AI H c D L ns _ as ans (upd H1 q (.tup (as.map V.ref))) := s.new nq
    exact k q ans _ s2.keep (s2.dk.le (by omega)) ⟨as, updS, s2.len, s2.pr⟩ (fun e he => ⟨List.mem_of_mem_take (hm e he).1, (hm e he).2⟩) nd hlen
end
end Fw

set_option Elab.async false
set_option linter.all false
set_option maxRecDepth 100000
set_option maxHeartbeats 4000000
namespace Fw
open PySem L2 RZ RT
/-! ### answers by chance -/
def sp_l_wild (_ : PySem.W.Frag) : Sp := fun vs H Q _ => ∃ (c D p : Addr) (ns : List Int) (t : Nat) (ws : List Int) (ls : List (Int × Int)), vs = [.ref D, .ref p] ∧ Dk c D ns t H ∧ ShapeAt H p ws ls ∧ Good ws ls ∧ ws.length ≤ 60 ∧ t + 200 < 1000000000 ∧
  ∀ (q : Addr) (ans : List (Int × Bool)) (H' : Hp), Kp D H H' → Dk c D ns (t + 200) H' → AnsAt H' q ans → (∀ e ∈ ans, e.1 ∈ ws) → (ans.map (·.1)).Nodup → ans.length ≤ ws.length → Q (.ref q) H'
abbrev N_l_wild : List Str := ["_law_deck_here", "_law_web", "_law_told", "_law_version"]
def t_l_wild (K : PySem.W.Frag) : TS := (tSeq (tAsg (tLst tNil) (gName 2))
    (tSeq (tFor (iTup K (tOp (rIx K) (tVar 1) (tC (.int 0)))) (gName 3) (tIfS (tTest (tOp rGtI (tCall (sp_l_draw K) [] E0 (tCons (tVar 0) (tCons (tC (.int 3)) tNil))) (tC (.int 0)))) (tDrop (tBM K "list" fInsert (tVar 2) (tCons (tCall (sp_l_draw K) [] E0 (tCons (tVar 0) (tCons (tOp rAddI (tCB (fLen K) (tCons (tVar 2) tNil)) (tC (.int 1))) tNil))) (tCons (tTup (tCons (tVar 3) (tCons (tOp rEq (tCall (sp_l_draw K) [] E0 (tCons (tVar 0) (tCons (tC (.int 2)) tNil))) (tC (.int 0))) tNil))) tNil)))) tNext))
    (tRet (tCB (fTupleOf K) (tCons (tVar 2) tNil)))))
section
variable {K : PySem.W.Frag} {vs : List V} {H : Hp} {Q : VK} {E : XK}
theorem len_l_wild (h : sp_l_wild K vs H Q E) : vs.length = 2 := by
  obtain ⟨_, _, _, _, _, _, _, rfl, _⟩ := h
  rfl
theorem pure_l_wild (h : sp_l_wild K vs H Q E) : t_l_wild K { nx := fun _ H' => Q .non H', rt := Q } (start N_l_wild vs) H := by
  obtain ⟨c, D, p, ns, t, ws, ls, rfl, dk, ⟨a0, r0, rs, hp, ha0, hr0, lk⟩, g, hw, ht, k⟩ := h
  refine ⟨Nat.zero_le _, fun L nL => ?_⟩
  have s0 : AI H c D L ns t [] [] (upd H L (.lst [])) := ⟨dk.upd (dk.neC nL) (dk.neD nL), .new nL, updS, rfl, (fun i a e h1 _ => by cases h1), ⟨t, dk⟩, nL⟩
  refine ⟨_, rfl, ixT (s0.keep.tup dk _ _ hp) rfl ⟨a0, rfl, ⟨_, sqT (s0.keep.tup dk _ _ ha0)⟩, ?_⟩⟩
  refine for_tup (K := K) (a := a0) (xs := ws.map V.int) (fun i σ H' => ∃ (as : List Addr) (ans : List (Int × Bool)) (z4 : Option V), σ = [some (.ref D), some (.ref p), some (.ref L), z4] ∧ AI H c D L ns (t + 3 * i) as ans H' ∧ (∀ e ∈ ans, e.1 ∈ ws.take i) ∧ (ans.map (·.1)).Nodup ∧ ans.length ≤ i) ?_ ?_ ?_ ?_
  · exact ⟨[], [], none, rfl, s0, (fun e he => nomatch he), .nil, Nat.le_refl _⟩
  · rintro i σ H' _ ⟨_, _, _, _, s, _⟩
    exact sqT (s.keep.tup dk _ _ ha0)
  · rintro i x σ H1 hx ⟨as, ans, z4, rfl, s, hm, nd, hlen⟩
    rw [List.getElem?_map] at hx
    cases ew : ws[i]? with
    | none => rw [ew] at hx; cases hx
    | some w =>
      rw [ew] at hx
      cases Option.some.inj hx
      have hi : i < ws.length := (List.getElem?_eq_some_iff.mp ew).1
      have tk : ws.take (i + 1) = ws.take i ++ [w] := take_snoc ew
      refine ⟨_, rfl, c, D, ns, _, 3, rfl, s.dk, by omega, by decide, by decide, fun y H2 y0 y1 d2 fr2 => ⟨_, _, rfl, rfl, _, rfl, ite2 (fun _ => ?_) (fun _ => ?_)⟩⟩
      · have s2 := s.draw d2 fr2
        refine ⟨_, rfl, .inl ⟨rfl, _, sqL s2.hl⟩, _, rfl, _, rfl, lenL s2.hl ⟨_, _, rfl, rfl, c, D, ns, _, _, rfl, s2.dk, by omega, by omega, small100 (by rw [List.length_map, s2.len]; omega), fun j H3 j0 j1 d3 fr3 => ?_⟩⟩
        have s3 := s2.draw d3 fr3
        rw [List.length_map] at j1
        refine ⟨_, rfl, _, rfl, c, D, ns, _, 2, rfl, s3.dk, by omega, by decide, by decide, fun y2 H4 y20 y21 d4 fr4 => ⟨rfl, ?_⟩⟩
        have s3' := s3.draw d4 fr4
        refine ⟨by show (2 : Nat) ≤ sizeLine; decide, fun T nT => ?_⟩
        have s4 : AI H c D L ns _ as ans (upd H4 T (.tup [.int w, .bl (decide (V.int y2 = V.int 0))])) := s3'.new nT
        generalize hbb : decide (V.int y2 = V.int 0) = bb at s4 ⊢
        refine ⟨L, _, j, _, rfl, rfl, s4.hl, ?_, j0, (by have := s2.len; omega), ?_⟩
        · rw [List.length_map, s4.len]
          exact Nat.lt_of_le_of_lt (show _ ≤ 1000 by omega) (by decide)
        · have s5 := s4.ins (T := T) (e := (w, bb)) updS (k := j.toNat) (by omega)
          refine ⟨_, _, _, rfl, s5.le (by omega), fun e he => ?_, ?_, ?_⟩
          · rw [tk]
            rcases List.mem_cons.mp ((ins_perm ans j.toNat (w, bb)).mem_iff.mp he) with rfl | he
            · exact List.mem_append_right _ (List.mem_singleton.mpr rfl)
            · exact List.mem_append_left _ (hm e he)
          · have pm := (ins_perm ans j.toNat (w, bb)).map (·.1)
            refine pm.nodup_iff.mpr (List.nodup_cons.mpr ⟨fun hw2 => ?_, nd⟩)
            obtain ⟨e, he, ee⟩ := List.mem_map.mp hw2
            have := hm e he
            rw [ee] at this
            obtain ⟨m, hm2, em⟩ := List.getElem_of_mem this
            rw [List.length_take] at hm2
            rw [List.getElem_take] at em
            have h1 := List.getElem?_eq_some_iff.mp ew
            have := (List.getElem_inj (rising_nodup g.inc)).mp (em.trans h1.2.symm)
            omega
          · rw [(ins_perm ans j.toNat (w, bb)).length_eq, List.length_cons]
            omega
      · refine ⟨as, ans, _, rfl, (s.draw d2 fr2).le (by omega), fun e he => ?_, nd, by omega⟩
        rw [tk]
        exact List.mem_append_left _ (hm e he)
  · rintro σ H1 ⟨as, ans, z4, rfl, s, hm, nd, hlen⟩
    rw [List.length_map] at s hm hlen
    refine ⟨_, rfl, L, _, rfl, .inl ⟨sqL s.hl, fun q nq => ?_⟩⟩
    have s2 : AI H c D L ns _ as ans (upd H1 q (.tup (as.map V.ref))) := s.new nq
    exact k q ans _ s2.keep (s2.dk.le (by omega)) ⟨as, updS, s2.len, s2.pr⟩ (fun e he => List.mem_of_mem_take (hm e he)) nd hlen
end
end Fw

set_option Elab.async false
set_option linter.all false
set_option maxRecDepth 100000
set_option maxHeartbeats 4000000
namespace Fw
open PySem PySem.Spec PyProof.Rows L2 PySem.W.Datum PySem.W
def leP (x y : Int × Int) : Prop := x.1 < y.1 ∨ (x.1 = y.1 ∧ x.2 ≤ y.2)
theorem leP.refl (x : Int × Int) : leP x x := .inr ⟨rfl, Int.le_refl _⟩
theorem leP.trans {x y z : Int × Int} (a : leP x y) (b : leP y z) : leP x z := by
  unfold leP at a b ⊢
  omega
/-- pairs of ints at these addresses -/
def PrsAt (H : Hp) (as : List Addr) (es : List (Int × Int)) : Prop := as.length = es.length ∧ ∀ (i : Nat) (a : Addr) (e : Int × Int), as[i]? = some a → es[i]? = some e → H a = some (.tup [.int e.1, .int e.2])
/-- min(l), l a list of pairs of ints -/
def rMinP (K : PySem.W.Frag) : List V → Hp → VK → Prop := fun vs H Q => ∃ (a : Addr) (as : List Addr) (es : List (Int × Int)), vs = [.ref a] ∧ SqL K H a (as.map V.ref) ∧ PrsAt H as es ∧ es ≠ [] ∧ ∀ (i : Nat) (b : Addr) (e : Int × Int), as[i]? = some b → es[i]? = some e → (∀ y ∈ es, leP e y) → Q (.ref b) H
theorem lt_pr (x y : Int × Int) : DatumOrd.lt x y = true ↔ ¬ leP y x := by
  show (if x.1 = y.1 then decide (x.2 < y.2) else decide (x.1 < y.1)) = true ↔ _
  unfold leP
  by_cases h : x.1 = y.1
  · rw [if_pos h, decide_eq_true_eq]
    omega
  · rw [if_neg h, decide_eq_true_eq]
    omega
theorem minOf_pr : ∀ (xs : List (Int × Int)) (x : Int × Int), minOf x xs ∈ x :: xs ∧ ∀ y ∈ x :: xs, leP (minOf x xs) y
  | [], x => ⟨List.mem_cons_self .., fun y hy => by rw [List.mem_singleton.mp hy]; exact .refl _⟩
  | z :: xs, x => by
    have e : minOf x (z :: xs) = minOf (if DatumOrd.lt z x = true then z else x) xs := rfl
    rw [e]
    by_cases h : DatumOrd.lt z x = true
    · rw [if_pos h]
      rw [lt_pr] at h
      obtain ⟨a, b⟩ := minOf_pr xs z
      refine ⟨List.mem_cons_of_mem _ a, fun y hy => ?_⟩
      rcases List.mem_cons.mp hy with q | q
      · have := b z (List.mem_cons_self ..)
        rw [q]
        unfold leP at h this ⊢
        omega
      · exact b y q
    · rw [if_neg h]
      rw [lt_pr] at h
      have h : leP x z := Classical.not_not.mp h
      obtain ⟨a, b⟩ := minOf_pr xs x
      refine ⟨?_, fun y hy => ?_⟩
      · rcases List.mem_cons.mp a with q | q
        · rw [q]; exact List.mem_cons_self ..
        · exact List.mem_cons_of_mem _ (List.mem_cons_of_mem _ q)
      · rcases List.mem_cons.mp hy with q | q
        · rw [q]; exact b x (List.mem_cons_self ..)
        · rcases List.mem_cons.mp q with q | q
          · rw [q]; exact (b x (List.mem_cons_self ..)).trans h
          · exact b y (List.mem_cons_of_mem _ q)
theorem dp_prs {K : PySem.W.Frag} {H : Hp} : ∀ {as : List Addr} {es : List (Int × Int)}, PrsAt H as es → DpAll K H (as.map V.ref) (es.map Datum.toD)
  | [], [], _ => .nil
  | [], _ :: _, h => by have := h.1; cases this
  | _ :: _, [], h => by have := h.1; cases this
  | a :: as, e :: es, h => .cons (.tup (sqT (h.2 0 a e rfl rfl)) (.cons (.int _) (.cons (.int _) .nil))) (dp_prs ⟨Nat.succ.inj h.1, fun i b x h1 h2 => h.2 (i + 1) b x h1 h2⟩)
theorem cr_minP {X : Cx} (hc : X.calm = true) (hu : X.A.units + 64 < cLine) : CallR X (.builtin "min") (rMinP X.K) := by
  intro pins s σ H vs us Q inv r h
  obtain ⟨a, as, es, rfl, hs, pr, hne, q⟩ := h
  obtain ⟨its, rv, p, _⟩ := inv.list hs
  rw [Vals.ref1 r]
  cases es with
  | nil => exact absurd rfl hne
  | cons e es =>
    obtain ⟨bs, rd⟩ := Dp.readsAll inv _ _ its (dp_prs pr) rv
    refine min_list_datum (α := Int × Int) (x := e) (xs := es) (inv.ok.hd hc) p.isList ⟨bs, rd⟩ (by show X.A.units + 1 + 1 < cLine; omega) fun i v h' tk hi hold hk => ?_
    obtain ⟨m1, m2⟩ := minOf_pr es e
    have hi' : its[i]? = some v := by simpa using hi
    have hlen := rv.length
    rw [List.length_map] at hlen
    have hi2 : i < as.length := by rw [hlen]; exact (List.getElem?_eq_some_iff.mp hi').1
    have hi3 : i < (e :: es).length := by rw [← pr.1]; exact hi2
    have rel : RelV (.ref as[i]) v := by
      obtain ⟨u, h1, h2⟩ := rv.get (i := i) (x := .ref as[i]) (by rw [List.getElem?_map, List.getElem?_eq_getElem hi2]; rfl)
      rw [hi'] at h1
      cases Option.some.inj h1
      exact h2
    obtain rfl : v = Value.ref as[i] := rel
    obtain ⟨cs, rd3⟩ := hold
    obtain ⟨cs2, rd4⟩ := Dp.reads (inv.kept (t' := tk) hk) _ (.ref as[i]) _ (Dp.tup (K := X.K) (H := H) (sqT (pr.2 i _ _ (List.getElem?_eq_getElem hi2) (List.getElem?_eq_getElem hi3))) (.cons (.int _) (.cons (.int _) .nil))) rfl
    have eq := SeqAt.plain_unique _ _ _ _ _ rfl rd4 rd3
    have e3 : (e :: es)[i] = minOf e es := by
      have eq : PyData.tuple [.int (e :: es)[i].1, .int (e :: es)[i].2] = .tuple [.int (minOf e es).1, .int (minOf e es).2] := eq
      injection eq with eq
      injection eq with q1 q2
      injection q2 with q2 _
      injection q1 with q1
      injection q2 with q2
      exact Prod.ext q1 q2
    refine ⟨.ref as[i], H, inv.kept hk, rfl, q i _ _ (List.getElem?_eq_getElem hi2) (List.getElem?_eq_getElem hi3) fun y hy => ?_⟩
    rw [e3]
    exact m2 y hy
end Fw

set_option Elab.async false
set_option linter.all false
set_option maxRecDepth 100000
set_option maxHeartbeats 4000000
namespace Fw
open PySem L2 RZ RT
/-- one answered True above one answered False -/
def Cl (ls : List (Int × Int)) (ans : List (Int × Bool)) (e : Int × Int) : Prop := (e.1, true) ∈ ans ∧ (e.2, false) ∈ ans ∧ Dn ls e.1 e.2
def sp_l_clash (_ : PySem.W.Frag) : Sp := fun vs H Q _ => ∃ (R q : Addr) (ws : List Int) (ls : List (Int × Int)) (ra : List Addr) (ans : List (Int × Bool)), vs = [.ref R, .ref q] ∧ RowsAt H R ws ls ws ra ∧ AnsAt H q ans ∧ (∀ e ∈ ans, e.1 ∈ ws) ∧ Good ws ls ∧ ws.length ≤ 1000 ∧ ans.length ≤ 1000 ∧
  ((∀ e, ¬ Cl ls ans e) → ∀ H', Same H H' → Q .non H') ∧ ∀ e, Cl ls ans e → (∀ f, Cl ls ans f → leP e f) → ∀ (p : Addr) (H' : Hp), Same H H' → H' p = some (.tup [.int e.1, .int e.2]) → Q (.ref p) H'
abbrev N_l_clash : List Str := ["_law_rows", "_law_answers", "_law_pairs", "_law_one", "_law_other"]
def t_l_clash_turn (K : PySem.W.Frag) : TS := (tFor (iTup K (tVar 1)) (gName 4) (tIfS (tAnd (tB (tOp (rIx K) (tVar 3) (tC (.int 1)))) (tAnd (tNot (tB (tOp (rIx K) (tVar 4) (tC (.int 1))))) (tTest (tOp (rIn K false) (tOp (rIx K) (tVar 4) (tC (.int 0))) (tDGet (tVar 0) (tOp (rIx K) (tVar 3) (tC (.int 0)))))))) (tDrop (tBM K "list" rAppend (tVar 2) (tCons (tTup (tCons (tOp (rIx K) (tVar 3) (tC (.int 0))) (tCons (tOp (rIx K) (tVar 4) (tC (.int 0))) tNil))) tNil))) tNext))
def t_l_clash_end (K : PySem.W.Frag) : TS := (tSeq (tIfS (tTest (tOp rEq (tCB (fLen K) (tCons (tVar 2) tNil)) (tC (.int 0)))) (tRet (tC .non)) tNext)
    (tRet (tCB (rMinP K) (tCons (tVar 2) tNil))))
def t_l_clash_loop (K : PySem.W.Frag) : TS := (tSeq (tFor (iTup K (tVar 1)) (gName 3) (t_l_clash_turn K))
    (t_l_clash_end K))
def t_l_clash (K : PySem.W.Frag) : TS := (tSeq (tAsg (tLst tNil) (gName 2))
    (t_l_clash_loop K))
/-- what was found when i rows are through and j of the next -/
structure CI (H0 : Hp) (P : Addr) (ls : List (Int × Int)) (ans : List (Int × Bool)) (i j : Nat) (as : List Addr) (es : List (Int × Int)) (H : Hp) : Prop where
  same : Same H0 H
  hP : H P = some (.lst (as.map V.ref))
  prs : PrsAt H as es
  few : es.length ≤ i * 1000 + j
  ok : ∀ e ∈ es, Cl ls ans e
  all : ∀ (m n : Nat) (e f : Int × Bool), (m < i ∨ (m = i ∧ n < j)) → ans[m]? = some e → ans[n]? = some f → e.2 = true → f.2 = false → Dn ls e.1 f.1 → (e.1, f.1) ∈ es
section
variable {K : PySem.W.Frag} {vs : List V} {H : Hp} {Q : VK} {E : XK}
theorem len_l_clash (h : sp_l_clash K vs H Q E) : vs.length = 2 := by
  obtain ⟨_, _, _, _, _, _, rfl, _⟩ := h
  rfl
theorem pure_l_clash (h : sp_l_clash K vs H Q E) : t_l_clash K { nx := fun _ H' => Q .non H', rt := Q } (start N_l_clash vs) H := by
  obtain ⟨R, q, ws, ls, ra, ans, rfl, ⟨hal, hR, hrow⟩, ⟨as, hq, has, han⟩, hin, g, hw, hz, k1, k2⟩ := h
  refine ⟨Nat.zero_le _, fun P nP => ?_⟩
  have ansOf : ∀ {j : Nat} {x : V}, (as.map V.ref)[j]? = some x → ∃ (a : Addr) (e : Int × Bool), x = .ref a ∧ ans[j]? = some e ∧ e.1 ∈ ws ∧ H a = some (.tup [.int e.1, .bl e.2]) := fun {j x} hx => by
    rw [List.getElem?_map] at hx
    cases ea : as[j]? with
    | none => rw [ea] at hx; cases hx
    | some a =>
      rw [ea] at hx
      have hj : j < ans.length := by rw [← has]; exact (List.getElem?_eq_some_iff.mp ea).1
      have ee : ans[j]? = some ans[j] := List.getElem?_eq_getElem hj
      exact ⟨a, _, (Option.some.inj hx).symm, ee, hin _ (List.mem_of_getElem? ee), han j a _ ea ee⟩
  have rowOf : ∀ (u : Int), u ∈ ws → ∃ a, valV (rowsKV ws ra) (.inl u) = some (.ref a) ∧ H a = some (.lst ((belowL ws ls u).map V.int)) := fun u hu => by
    obtain ⟨m, hm, em⟩ := List.getElem_of_mem hu
    have em2 : ws[m]? = some u := List.getElem?_eq_some_iff.mpr ⟨hm, em⟩
    have ea : ra[m]? = some ra[m] := List.getElem?_eq_getElem (by omega)
    exact ⟨ra[m], rows_val (rising_nodup g.inc) em2 ea, hrow m u _ em2 ea⟩
  show t_l_clash_loop K { nx := fun _ H' => Q .non H', rt := Q } [some (.ref R), some (.ref q), some (.ref P), none, none] (upd H P (.lst []))
  have s0 := samNew (o := .lst []) nP
  refine ⟨_, rfl, q, rfl, ⟨_, sqT (s0 _ _ hq)⟩, ?_⟩
  refine for_tup (K := K) (a := q) (xs := as.map V.ref) (fun i σ H' => ∃ (bs : List Addr) (es : List (Int × Int)) (z3 z4 : Option V), σ = [some (.ref R), some (.ref q), some (.ref P), z3, z4] ∧ CI H P ls ans i 0 bs es H') ⟨[], [], none, none, rfl, s0, updS, ⟨rfl, fun i a e h1 => nomatch h1⟩, Nat.zero_le _, (fun e he => nomatch he), fun m n e f hm => by omega⟩ (fun i σ H' _ ⟨_, _, _, _, _, c⟩ => sqT (c.same _ _ hq)) ?_ ?_
  · rintro i x σ H1 hx ⟨bs, es, z3, z4, rfl, c⟩
    obtain ⟨a, e, rfl, ee, hem, ha⟩ := ansOf hx
    have hi : i < ans.length := (List.getElem?_eq_some_iff.mp ee).1
    show t_l_clash_turn K _ [some (.ref R), some (.ref q), some (.ref P), some (.ref a), z4] H1
    refine ⟨_, rfl, q, rfl, ⟨_, sqT (c.same _ _ hq)⟩, ?_⟩
    refine for_tup (K := K) (a := q) (xs := as.map V.ref) (fun j σ H' => ∃ (bs : List Addr) (es : List (Int × Int)) (z4 : Option V), σ = [some (.ref R), some (.ref q), some (.ref P), some (.ref a), z4] ∧ CI H P ls ans i j bs es H') ⟨bs, es, z4, rfl, c⟩ (fun j σ H' _ ⟨_, _, _, _, c⟩ => sqT (c.same _ _ hq)) ?_ ?_
    · rintro j x σ H2 hx2 ⟨bs, es, z4, rfl, c⟩
      obtain ⟨b, f, rfl, ef, hfm, hb⟩ := ansOf hx2
      have hj : j < ans.length := (List.getElem?_eq_some_iff.mp ef).1
      obtain ⟨rw1, hv1, hl1⟩ := rowOf e.1 hem
      have skip : ¬ (e.2 = true ∧ f.2 = false ∧ Dn ls e.1 f.1) → CI H P ls ans i (j + 1) bs es H2 := fun hn => ⟨c.same, c.hP, c.prs, Nat.le_succ_of_le c.few, c.ok, fun m n e' f' hm h1 h2 h3 h4 h5 => by
        by_cases hq' : m < i ∨ (m = i ∧ n < j)
        · exact c.all m n e' f' hq' h1 h2 h3 h4 h5
        · have e1 : m = i := by omega
          have e2 : n = j := by omega
          subst e1 e2
          rw [ee] at h1
          rw [ef] at h2
          cases Option.some.inj h1
          cases Option.some.inj h2
          exact absurd ⟨h3, h4, h5⟩ hn⟩
      refine ⟨_, rfl, ixT (c.same _ _ ha) rfl ⟨_, rfl, ite2 (fun z => ?_) (fun z => ?_)⟩⟩
      · refine ⟨_, rfl, ixT (c.same _ _ hb) rfl ⟨_, rfl, ?_⟩⟩
        cases ef2 : f.2 with
        | true => exact iteF (iteF ⟨bs, es, _, rfl, skip fun h => by rw [ef2] at h; cases h.2.1⟩)
        | false =>
          refine iteT ?_
          refine ⟨_, rfl, ixT (c.same _ _ hb) rfl ⟨_, rfl, _, rfl, ixT (c.same _ _ ha) rfl ⟨R, .ref rw1, rfl, .inl ⟨_, Sum.inl e.1, .inl (c.same _ _ hR), rfl, hv1.symm⟩, rw1, _, rfl, .inl (sqL (c.same _ _ hl1)), rfl, flat_ints _, _, rfl, ?_⟩⟩⟩
          show if inV (.int f.1) ((belowL ws ls e.1).map V.int) = true then _ else _
          rw [inV_ints]
          refine ite2 (fun d => ?_) (fun d => ?_)
          · have dn : Dn ls e.1 f.1 := (mem_belowL g hem).mp (List.contains_iff_mem.mp d)
            refine ⟨_, rfl, .inl ⟨rfl, _, sqL c.hP⟩, _, rfl, ixT (c.same _ _ ha) rfl ⟨_, rfl, ixT (c.same _ _ hb) rfl ⟨by show (2 : Nat) ≤ sizeLine; decide, fun T nT => ?_⟩⟩⟩
            have nPT : P ≠ T := ne_of_none c.hP nT
            refine ⟨P, _, _, rfl, rfl, updN nPT c.hP, ?_, bs ++ [T], es ++ [(e.1, f.1)], _, rfl, ?_, ?_, ?_, ?_, ?_, ?_⟩
            · rw [List.length_map, c.prs.1]
              have := c.few
              have : i * 1000 ≤ 1000 * 1000 := Nat.mul_le_mul (by omega) (Nat.le_refl _)
              exact Nat.lt_of_le_of_lt (show es.length ≤ 2000000 by omega) (by decide)
            · exact fun y o hy => updN (ne_of_none hy nP) (samNew nT _ _ (c.same _ _ hy))
            · rw [updS, List.map_append]
              rfl
            · refine ⟨by rw [List.length_append, List.length_append, c.prs.1]; rfl, fun n a' e' h1 h2 => ?_⟩
              by_cases hn : n < bs.length
              · rw [List.getElem?_append_left hn] at h1
                rw [List.getElem?_append_left (by rw [← c.prs.1]; exact hn)] at h2
                have h3 := c.prs.2 n a' e' h1 h2
                exact updN (ne_of h3 c.hP (by intro z; cases z)) (updN (ne_of_none h3 nT) h3)
              · rw [List.getElem?_append_right (by omega)] at h1
                rw [List.getElem?_append_right (by rw [← c.prs.1]; omega)] at h2
                have h1l := (List.getElem?_eq_some_iff.mp h1).1
                rw [List.length_singleton] at h1l
                have e0 : n - bs.length = 0 := by omega
                rw [e0] at h1
                rw [← c.prs.1, e0] at h2
                cases Option.some.inj h1
                cases Option.some.inj h2
                exact updN nPT.symm updS
            · rw [List.length_append, List.length_singleton]
              have := c.few
              omega
            · intro y hy
              rcases List.mem_append.mp hy with hy | hy
              · exact c.ok y hy
              · rw [List.mem_singleton.mp hy]
                obtain ⟨e1, e2⟩ := e
                obtain ⟨f1, f2⟩ := f
                cases (show e2 = true from z)
                cases (show f2 = false from ef2)
                exact ⟨List.mem_of_getElem? ee, List.mem_of_getElem? ef, dn⟩
            · intro m n e' f' hm h1 h2 h3 h4 h5
              by_cases hq' : m < i ∨ (m = i ∧ n < j)
              · exact List.mem_append_left _ (c.all m n e' f' hq' h1 h2 h3 h4 h5)
              · have e1 : m = i := by omega
                have e2 : n = j := by omega
                subst e1 e2
                rw [ee] at h1
                rw [ef] at h2
                cases Option.some.inj h1
                cases Option.some.inj h2
                exact List.mem_append_right _ (List.mem_singleton.mpr rfl)
          · exact ⟨bs, es, _, rfl, skip fun h => d (List.contains_iff_mem.mpr ((mem_belowL g hem).mpr h.2.2))⟩
      · exact iteF ⟨bs, es, _, rfl, skip fun h => z h.1⟩
    · rintro σ H2 ⟨bs, es, z4, rfl, c⟩
      rw [List.length_map, has] at c
      refine ⟨bs, es, _, _, rfl, c.same, c.hP, c.prs, ?_, c.ok, fun m n e' f' hm h1 h2 h3 h4 h5 => c.all m n e' f' ?_ h1 h2 h3 h4 h5⟩
      · have := c.few
        omega
      · have := (List.getElem?_eq_some_iff.mp h2).1
        omega
  · rintro σ H1 ⟨bs, es, z3, z4, rfl, c⟩
    rw [List.length_map, has] at c
    show t_l_clash_end K { nx := fun _ H' => Q .non H', rt := Q } [some (.ref R), some (.ref q), some (.ref P), z3, z4] H1
    have full : ∀ y, Cl ls ans y → y ∈ es := fun y ⟨h1, h2, h3⟩ => by
      obtain ⟨m, hm, em⟩ := List.getElem_of_mem h1
      obtain ⟨n, hn, en⟩ := List.getElem_of_mem h2
      exact c.all m n _ _ (.inl hm) (List.getElem?_eq_some_iff.mpr ⟨hm, em⟩) (List.getElem?_eq_some_iff.mpr ⟨hn, en⟩) rfl rfl h3
    refine ⟨_, rfl, lenL c.hP ⟨rfl, _, rfl, ?_⟩⟩
    rw [List.length_map, c.prs.1]
    cases es with
    | nil => exact iteT (k1 (fun y hy => nomatch full y hy) _ c.same)
    | cons y ys =>
      refine iteF ⟨_, rfl, P, bs, y :: ys, rfl, sqL c.hP, c.prs, (fun z => nomatch z), fun i b f h1 h2 h3 => ?_⟩
      exact k2 f (c.ok f (List.mem_of_getElem? h2)) (fun y' hy => h3 y' (full y' hy)) b _ c.same (c.prs.2 i b f h1 h2)
end
end Fw

set_option Elab.async false
set_option linter.all false
set_option maxRecDepth 100000
set_option maxHeartbeats 4000000
/-! Law k23. -/
namespace Fw
open PySem L2 RZ RT
abbrev N_law : List Str := ["_law_script", "_law_deck_here", "_law_road", "_law_turns", "_law_web", "_law_rows", "_law_answers_here", "_law_thing", "_law_k", "_law_due"]
def t_law_last (K : PySem.W.Frag) : TS := (tRet (tCall (sp_l_truth K) [] E0 (tCons (tCall (sp_right_paperA K) [] E0 (tCons (tVar 4) (tCons (tVar 6) (tCons (tVar 7) tNil)))) (tCons (tVar 9) tNil))))
def t_law_due (K : PySem.W.Frag) : TS := (tSeq (tAsg (tAndV (tOp fIsN (tCall (sp_l_clash K) [] E0 (tCons (tVar 5) (tCons (tVar 6) tNil))) (tC .non)) (tCall (sp_l_is_paperA K) [] E0 (tCons (tVar 4) (tCons (tVar 6) (tCons (tVar 7) tNil))))) (gName 9))
    (t_law_last K))
def t_law_road (K : PySem.W.Frag) : TS := (tSeq (tIfS (tTest (tOp rEq (tVar 2) (tC (.int 0)))) (tAsg (tCall (sp_l_odd K) [] E0 (tCons (tVar 1) tNil)) (gName 7)) (tFor (iRng1 (tCons (tVar 3) tNil)) (gName 8) (tAsg (tCall (sp_l_bent K) [] E0 (tCons (tVar 1) (tCons (tVar 7) (tCons (tC (.int 3)) tNil)))) (gName 7))))
    (t_law_due K))
def t_law_told (K : PySem.W.Frag) : TS := (tSeq (tIfS (tTest (tOp rGtI (tVar 2) (tC (.int 1)))) (tTry2 K (.ref (He.ga K "Contrary")) (.ref (He.ga K "Unsettled")) (fun _ _ _ => (tAsg (tC (.int 0)) (gName 3))) (fun W => (tAsg (tCallS (sp_paper K) (WE W) (tCons (tVar 4) (tCons (tVar 6) tNil))) (gName 7)))) tNext)
    (t_law_road K))
def t_law_made (K : PySem.W.Frag) : TS := (tSeq (tAsg (tCall (sp_l_made_up K) [] E0 (tCons (tVar 1) (tCons (tVar 4) tNil))) (gName 7))
    (t_law_told K))
def t_law_ans (K : PySem.W.Frag) : TS := (tSeq (tIfS (tTest (tOp rEq (tCall (sp_l_draw K) [] E0 (tCons (tVar 1) (tCons (tC (.int 4)) tNil))) (tC (.int 0)))) (tAsg (tCall (sp_l_wild K) [] E0 (tCons (tVar 1) (tCons (tVar 4) tNil))) (gName 6)) (tAsg (tCall (sp_l_answers K) [] E0 (tCons (tVar 1) (tCons (tVar 4) (tCons (tCall (sp_l_lower K) [] E0 (tCons (tVar 1) (tCons (tVar 5) tNil))) tNil)))) (gName 6)))
    (t_law_made K))
def t_law_spans (K : PySem.W.Frag) : TS := (tSeq (tAsg (tCall (sp_l_spans K) [] E0 (tCons (tVar 4) tNil)) (gName 5))
    (t_law_ans K))
def t_law (K : PySem.W.Frag) : TS := (tSeq (tAsg (tCall (sp_l_deck K) [] E0 (tCons (tVar 0) tNil)) (gName 1))
    (tSeq (tAsg (tCall (sp_l_draw K) [] E0 (tCons (tVar 1) (tCons (tC (.int 6)) tNil))) (gName 2))
    (tSeq (tAsg (tCall (sp_l_draw K) [] E0 (tCons (tVar 1) (tCons (tC (.int 3)) tNil))) (gName 3))
    (tSeq (tAsg (tCall (sp_l_shape K) [] E0 (tCons (tVar 1) (tCons (tC (.int 6)) tNil))) (gName 4))
    (t_law_spans K)))))
/-- what the law leans on of an error's class -/
structure ErrC (K : PySem.W.Frag) (C : Addr) (m : Str) : Prop where
  oex : OexC K C
  ini : PySem.W.findIn K (.ref C) "__init__" = some (some (.ref (He.fAd K (m, some "__init__"))))
  tin : PySem.W.typeIn K (.ref (He.fAd K (m, some "__init__"))) = some (.type "function")
def errB (K : PySem.W.Frag) (C : Addr) (m : Str) : Bool := oexB K C && (decide (PySem.W.findIn K (.ref C) "__init__" = some (some (.ref (He.fAd K (m, some "__init__"))))) && decide (PySem.W.typeIn K (.ref (He.fAd K (m, some "__init__"))) = some (.type "function")))
theorem errB_ok {K : PySem.W.Frag} {C : Addr} {m : Str} (h : errB K C m = true) : ErrC K C m := by
  unfold errB at h
  simp only [Bool.and_eq_true, decide_eq_true_eq] at h
  obtain ⟨h1, h2, h3⟩ := h
  exact ⟨oexB_ok h1, h2, h3⟩
structure K23C (K : PySem.W.Frag) : Prop where
  heir : HeirC K (He.ga K "HouseError")
  c : ErrC K (He.ga K "Contrary") "Contrary"
  u : ErrC K (He.ga K "Unsettled") "Unsettled"
  upper : PySem.W.findIn K (.ref (He.ga K "Contrary")) "upper" = some none
  lower : PySem.W.findIn K (.ref (He.ga K "Contrary")) "lower" = some none
  version : PySem.W.findIn K (.ref (He.ga K "Unsettled")) "version" = some none
  em : PySem.W.exmOne K (.ref (He.ga K "Contrary")) (.ref (He.ga K "Contrary")) = some true
  ea1 : PySem.W.exmAny K (.ref (He.ga K "Contrary")) [.ref (He.ga K "Contrary"), .ref (He.ga K "Unsettled")] = some true
  ea2 : PySem.W.exmAny K (.ref (He.ga K "Unsettled")) [.ref (He.ga K "Contrary"), .ref (He.ga K "Unsettled")] = some true
def k23B (K : PySem.W.Frag) : Bool :=
  heirB K (He.ga K "HouseError") && (errB K (He.ga K "Contrary") "Contrary" && (errB K (He.ga K "Unsettled") "Unsettled" &&
  (decide (PySem.W.findIn K (.ref (He.ga K "Contrary")) "upper" = some none) && (decide (PySem.W.findIn K (.ref (He.ga K "Contrary")) "lower" = some none) && (decide (PySem.W.findIn K (.ref (He.ga K "Unsettled")) "version" = some none) &&
  (decide (PySem.W.exmOne K (.ref (He.ga K "Contrary")) (.ref (He.ga K "Contrary")) = some true) && (decide (PySem.W.exmAny K (.ref (He.ga K "Contrary")) [.ref (He.ga K "Contrary"), .ref (He.ga K "Unsettled")] = some true) && decide (PySem.W.exmAny K (.ref (He.ga K "Unsettled")) [.ref (He.ga K "Contrary"), .ref (He.ga K "Unsettled")] = some true))))))))
theorem k23_of {K : PySem.W.Frag} (h : k23B K = true) : K23C K := by
  unfold k23B at h
  simp only [Bool.and_eq_true, decide_eq_true_eq] at h
  obtain ⟨h1, h2, h3, h4, h5, h6, h7, h8, h9⟩ := h
  exact ⟨heirB_ok h1, errB_ok h2, errB_ok h3, h4, h5, h6, h7, h8, h9⟩
theorem K23C.cc {K : PySem.W.Frag} (C : K23C K) : ContraryC K := ⟨C.c.oex, C.upper, C.lower⟩
theorem K23C.uc {K : PySem.W.Frag} (C : K23C K) : UnsC K := ⟨C.u.oex, C.version⟩
theorem tupNe {c D p : Addr} {ns : List Int} {t : Nat} {H : Hp} {xs : List V} (d : Dk c D ns t H) (h : H p = some (.tup xs)) : p ≠ D := by
  obtain ⟨ys, e⟩ := d.someD
  exact ne_of h e fun z => by cases z
theorem GoodRow.short {ws : List Int} {ls : List (Int × Int)} {ans : List (Int × Bool)} {w : Int} {e : Bool × List Int} (h : GoodRow ls ans w e) (g : Good ws ls) (hw : w ∈ ws) : e.2.length ≤ ws.length := by
  have dec : ∀ (k i : Nat) (x y : Int), e.2[i]? = some x → e.2[i + k + 1]? = some y → y < x := by
    intro k
    induction k with
    | zero => exact fun i x y hx hy => (g.mem _ (h.lk i x y hx hy)).2.2
    | succ k ih =>
      intro i x y hx hy
      have hl := (List.getElem?_eq_some_iff.mp hy).1
      have hz : e.2[i + k + 1]? = some e.2[i + k + 1] := List.getElem?_eq_getElem (by omega)
      have h1 := ih i x _ hx hz
      have h2 := (g.mem _ (h.lk (i + k + 1) _ y hz hy)).2.2
      have h2 : y < e.2[i + k + 1] := h2
      omega
  refine length_sub ?_ (h.inn g hw)
  rw [List.nodup_iff_pairwise_ne, List.pairwise_iff_getElem]
  intro i j hi hj hij e'
  have := dec (j - i - 1) i _ _ (List.getElem?_eq_getElem hi) (by rw [show i + (j - i - 1) + 1 = j by omega]; exact List.getElem?_eq_getElem hj)
  omega
structure L23 (H : Hp) (c D : Addr) (ns : List Int) (t : Nat) (p R q : Addr) (ws : List Int) (ls : List (Int × Int)) (ra : List Addr) (ans : List (Int × Bool)) : Prop where
  dk : Dk c D ns t H
  sh : ShapeAt H p ws ls
  rows : RowsAt H R ws ls ws ra
  nR : R ≠ D
  raD : ∀ b ∈ ra, b ≠ D
  an : AnsAt H q ans
section
variable {K : PySem.W.Frag} {vs : List V} {H H' : Hp} {Q : VK} {E : XK} {c D p R q : Addr} {ns : List Int} {t t' : Nat} {ws : List Int} {ls : List (Int × Int)} {ra : List Addr} {ans : List (Int × Bool)} {x0 : Option V} {rd tn : Int} {z8 z9 : Option V}
theorem L23.kp (l : L23 H c D ns t p R q ws ls ra ans) (k : Kp D H H') (d : Dk c D ns t' H') : L23 H' c D ns t' p R q ws ls ra ans :=
  ⟨d, l.sh.mono fun b xs e => k.tup l.dk b xs e, l.rows.mono fun b o e hb => k b o e (hb.elim (fun z => by rw [z]; exact l.nR) fun z => l.raD b z), l.nR, l.raD, l.an.mono fun b xs e => k.tup l.dk b xs e⟩
/-- all that the answers keep -/
structure A23 (ws : List Int) (ls : List (Int × Int)) (ans : List (Int × Bool)) : Prop where
  g : Good ws ls
  hw : ws.length ≤ 6
  hl : ls.length ≤ 36
  hin : ∀ e ∈ ans, e.1 ∈ ws
  nd : (ans.map (·.1)).Nodup
  few : ans.length ≤ 6
theorem law_due {x : V} {B : Nat} (C : K23C K) (l : L23 H c D ns t p R q ws ls ra ans) (A : A23 ws ls ans) (o : Okd D B H x) (hB : B ≤ 300) (k : ∀ H', Q (.bl true) H') :
    t_law_due K { nx := fun _ H' => Q .non H', rt := Q } [x0, some (.ref D), some (.int rd), some (.int tn), some (.ref p), some (.ref R), some (.ref q), some x, z8, z9] H := by
  obtain ⟨d, an⟩ := o
  have a := an.at (by omega)
  have hw := A.hw
  have hl := A.hl
  have few := A.few
  have last : ∀ (b : Bool) (H1 : Hp), Same H H1 → b = bof (NotContrary ls ans ∧ RiP ws ls ans d) → t_law_last K { nx := fun _ H' => Q .non H', rt := Q } [x0, some (.ref D), some (.int rd), some (.int tn), some (.ref p), some (.ref R), some (.ref q), some x, z8, some (.bl b)] H1 := by
    intro b H1 s1 eb
    refine ⟨_, rfl, _, rfl, _, rfl, p, q, x, d, ws, ls, ans, rfl, l.sh.mono (fun b xs e => s1 _ _ e), A.g, by omega, by omega, l.an.mono (fun b xs e => s1 _ _ e), by omega, A.nd, C.cc, C.em, a.mono s1, fun H2 s2 => ⟨_, rfl, b, (by rw [eb]; rfl), k _⟩⟩
  refine ⟨_, rfl, _, rfl, R, q, ws, ls, ra, ans, rfl, l.rows, l.an, A.hin, A.g, by omega, by omega, fun nocl H1 s1 => ?_, fun e ce _ p2 H1 s1 hp2 => ?_⟩
  · have nc : NotContrary ls ans := fun v u hv hu dn => nocl (v, u) ⟨hv, hu, dn⟩
    refine ⟨rfl, _, rfl, iteT ?_⟩
    refine ⟨_, rfl, _, rfl, _, rfl, p, q, x, d, ws, ls, ans, rfl, l.sh.mono (fun b xs e => s1 _ _ e), A.g, by omega, l.an.mono (fun b xs e => s1 _ _ e), a.mono s1, fun H2 s2 => last _ H2 (s1.trans s2) (bof_of ⟨fun h => ⟨nc, ?_⟩, fun h => bof_t h.2⟩)⟩
    by_cases w : RiP ws ls ans d
    · exact w
    · rw [bof_f w] at h; cases h
  · refine ⟨rfl, _, rfl, iteF (last false H1 s1 (bof_f fun h => h.1 _ _ ce.1 ce.2.1 ce.2.2).symm)⟩
theorem law_road {x : V} (C : K23C K) (l : L23 H c D ns t p R q ws ls ra ans) (A : A23 ws ls ans) (o : Okd D 20 H x) (ht : t + 1000 < 1000000) (t0 : 0 ≤ tn) (t3 : tn < 3) (k : ∀ H', Q (.bl true) H') :
    t_law_road K { nx := fun _ H' => Q .non H', rt := Q } [x0, some (.ref D), some (.int rd), some (.int tn), some (.ref p), some (.ref R), some (.ref q), some x, z8, z9] H := by
  refine ⟨_, rfl, rfl, _, rfl, ite2 (fun _ => ?_) fun _ => ?_⟩
  · refine ⟨_, rfl, c, D, ns, _, rfl, l.dk, by omega, fun y H1 k1 d1 o1 => ?_⟩
    exact law_due C (l.kp k1 d1) A o1 (by decide) k
  · refine ⟨_, rfl, _, rfl, by omega, by omega, ?_⟩
    refine for_range (lo := 0) (n := tn.toNat) (fun i σ H' => ∃ x z8, σ = [x0, some (.ref D), some (.int rd), some (.int tn), some (.ref p), some (.ref R), some (.ref q), some x, z8, z9] ∧ L23 H' c D ns (t + 12 * i) p R q ws ls ra ans ∧ Okd D (20 + i) H' x) ⟨x, _, rfl, l, o⟩ ?_ ?_
    · rintro i σ H' hi ⟨x, z8, rfl, l', oo⟩
      refine ⟨_, rfl, _, rfl, c, D, ns, _, x, 20 + i, rfl, by decide, l'.dk, by omega, oo, by omega, by omega, fun x' H5 k5 d5 o5 => ?_⟩
      exact ⟨x', _, rfl, l'.kp k5 d5, o5⟩
    · rintro σ H' ⟨x, z8, rfl, l', oo⟩
      exact law_due C l' A oo (by omega) k
theorem law_told {x : V} (C : K23C K) (l : L23 H c D ns t p R q ws ls ra ans) (A : A23 ws ls ans) (o : Okd D 20 H x) (ht : t + 1000 < 1000000) (t0 : 0 ≤ tn) (t3 : tn < 3) (k : ∀ H', Q (.bl true) H') :
    t_law_told K { nx := fun _ H' => Q .non H', rt := Q } [x0, some (.ref D), some (.int rd), some (.int tn), some (.ref p), some (.ref R), some (.ref q), some x, z8, z9] H := by
  have hw := A.hw
  have hl := A.hl
  have few := A.few
  refine ⟨_, rfl, _, _, rfl, rfl, _, rfl, ite2 (fun _ => ?_) fun _ => law_road C l A o ht t0 t3 k⟩
  refine ⟨_, rfl, _, rfl, p, q, ws, ls, ans, rfl, l.sh, A.g, by omega, by omega, l.an, by omega, A.nd, A.hin, C.cc, C.uc, fun _ _ r pa rows H1 s1 pt pis => ?_, fun _ v rest _ d H1 s1 _ _ => ⟨C.ea2, fun a _ => ?_⟩, fun u m _ _ _ _ d H1 s1 _ _ => ⟨C.ea1, fun a _ => ?_⟩⟩
  · have d1 := l.dk.kp s1
    refine law_road C (l.kp (.of_same s1) d1) A (.tup (tupNe d1 pt.top) pt.top (by rw [List.length_map, pt.len, pis.len]; omega) fun y hy => ?_) ht t0 t3 k
    obtain ⟨b, hb, rfl⟩ := List.mem_map.mp hy
    obtain ⟨i, hi, ei⟩ := List.getElem_of_mem hb
    have eb : pa[i]? = some b := List.getElem?_eq_some_iff.mpr ⟨hi, ei⟩
    have er : rows[i]? = some (rows[i]'(by rw [← pt.len]; exact hi)) := List.getElem?_eq_getElem _
    have ew : ws[i]? = some (ws[i]'(by rw [← pis.len, ← pt.len]; exact hi)) := List.getElem?_eq_getElem _
    obtain ⟨t, h1, h2⟩ := pt.row i b _ eb er
    have gr := RowIs.good pis (pis.is i _ _ ew er)
    have hs := gr.short A.g (List.mem_of_getElem? ew)
    refine .tup (tupNe d1 h1) h1 (by show (2 : Nat) ≤ 20; decide) fun y hy => ?_
    rcases List.mem_cons.mp hy with rfl | hy
    · exact ⟨_, .str _⟩
    · rw [List.mem_singleton.mp hy]
      refine .tup (tupNe d1 h2) h2 (by rw [List.length_map]; omega) fun y hy => ?_
      obtain ⟨n, _, rfl⟩ := List.mem_map.mp hy
      exact .int n
  · exact law_road C (l.kp (.of_same s1) (l.dk.kp s1)) A (o.mono (.of_same s1) (Nat.le_refl _)) ht (by decide) (by decide) k
  · exact law_road C (l.kp (.of_same s1) (l.dk.kp s1)) A (o.mono (.of_same s1) (Nat.le_refl _)) ht (by decide) (by decide) k
theorem law_made {z7 : Option V} (C : K23C K) (l : L23 H c D ns t p R q ws ls ra ans) (A : A23 ws ls ans) (ht : t + 3000 < 1000000) (t0 : 0 ≤ tn) (t3 : tn < 3) (k : ∀ H', Q (.bl true) H') :
    t_law_made K { nx := fun _ H' => Q .non H', rt := Q } [x0, some (.ref D), some (.int rd), some (.int tn), some (.ref p), some (.ref R), some (.ref q), z7, z8, z9] H := by
  have hw := A.hw
  have hl := A.hl
  refine ⟨_, rfl, _, rfl, c, D, p, ns, _, ws, ls, rfl, l.dk, l.sh, by omega, by omega, by omega, fun x H1 k1 d1 o1 => ?_⟩
  exact law_told C (l.kp k1 d1) A o1 (by omega) t0 t3 k
theorem pure_law (C : K23C K) (h : sp_law K vs H Q E) : t_law K { nx := fun _ H' => Q .non H', rt := Q } (start N_law vs) H := by
  obtain ⟨a, ns, rfl, hS, hl, k⟩ := h
  refine ⟨_, rfl, a, ns, rfl, hS, hl, fun c D H1 sm nc nD dk => ?_⟩
  refine ⟨_, rfl, c, D, ns, 0, 6, rfl, dk, by decide, by decide, by decide, fun r H2 r0 r1 d2 fr2 => ?_⟩
  refine ⟨_, rfl, c, D, ns, _, 3, rfl, d2, by decide, by decide, by decide, fun u H3 u0 u1 d3 fr3 => ?_⟩
  refine ⟨_, rfl, c, D, ns, _, 6, rfl, d3, by decide, by decide, by decide, fun p ws ls H4 k4 d4 sh g hlen hlk => ?_⟩
  have hw : ws.length ≤ 6 := by
    have : ((ws.length : Nat) : Int) ≤ 6 := hlen
    omega
  have hls : ls.length ≤ 36 := Nat.le_trans hlk (Nat.mul_le_mul hw hw)
  refine ⟨_, rfl, p, ws, ls, rfl, sh, g, by omega, by omega, fun R ra H5 s5 nR rows hfree => ?_⟩
  have d5 := d4.kp s5
  have sh5 : ShapeAt H5 p ws ls := sh.mono fun b xs h => s5 _ _ h
  have nRD := d4.neD nR
  have raD : ∀ b ∈ ra, b ≠ D := fun b hb => d4.neD (hfree b hb)
  show t_law_ans K { nx := fun _ H' => Q .non H', rt := Q } [some (.ref a), some (.ref D), some (.int r), some (.int u), some (.ref p), some (.ref R), none, none, none, none] H5
  refine ⟨_, rfl, c, D, ns, _, 4, rfl, d5, by decide, by decide, by decide, fun w H6 w0 w1 d6 fr6 => ⟨rfl, _, rfl, ?_⟩⟩
  have kp6 : Kp D H5 H6 := .fr fr6
  have sh6 : ShapeAt H6 p ws ls := sh5.mono fun b xs e => kp6.tup d5 b xs e
  have rows6 : RowsAt H6 R ws ls ws ra := rows.mono fun b o e hb => kp6 b o e (hb.elim (fun z => by rw [z]; exact nRD) fun z => raD b z)
  refine ite2 (fun _ => ?_) fun _ => ?_
  · refine ⟨_, rfl, _, rfl, c, D, p, ns, _, ws, ls, rfl, d6, sh6, g, by omega, by decide, fun q ans H7 k7 d7 an7 hin7 nd7 hal7 => ?_⟩
    exact law_made C ⟨d7, sh6.mono fun b xs e => k7.tup d6 b xs e, rows6.mono fun b o e hb => k7 b o e (hb.elim (fun z => by rw [z]; exact nRD) fun z => raD b z), nRD, raD, an7⟩ ⟨g, hw, hls, hin7, nd7, by omega⟩ (by decide) u0 u1 k
  · refine ⟨_, rfl, _, rfl, _, rfl, _, rfl, c, D, R, ns, _, ws, ls, ra, rfl, d6, rows6, raD, g, by omega, by decide, fun S fs H7 k7 d7 nS hS7 cl sub inc => ?_⟩
    have sh7 : ShapeAt H7 p ws ls := sh6.mono fun b xs e => k7.tup d6 b xs e
    have rows7 : RowsAt H7 R ws ls ws ra := rows6.mono fun b o e hb => k7 b o e (hb.elim (fun z => by rw [z]; exact nRD) fun z => raD b z)
    refine ⟨c, D, p, S, ns, _, ws, ls, fs, rfl, d7, sh7, g, hS7, d6.neD nS, by omega, by decide, fun q ans H8 k8 d8 an8 hin8 nd8 hal8 => ?_⟩
    exact law_made C ⟨d8, sh7.mono fun b xs e => k8.tup d7 b xs e, rows7.mono fun b o e hb => k8 b o e (hb.elim (fun z => by rw [z]; exact nRD) fun z => raD b z), nRD, raD, an8⟩ ⟨g, hw, hls, fun e he => (hin8 e he).1, nd8, by omega⟩ (by decide) u0 u1 k
end
end Fw

set_option Elab.async false
set_option linter.all false
set_option maxRecDepth 100000
set_option maxHeartbeats 4000000
namespace K23
open PySem L2 RZ RT Fw
def top (i : Nat) : Stmt := PySem.Challenge.pw_fewasks_k23_papers_looked_at.main.body.getD i (.Pass ⟨0, 0, 0, 0⟩)
abbrev FnP (K : PySem.W.Frag) (x : Str) (st : Stmt) (f : Addr) (fd : FuncData) : Prop := FunD K x x (defArgs st) (defBody st) (defScope st) [] [] f fd
def cBody : Stmt → List Stmt
  | .ClassDef _ _ _ body .. => body
  | _ => []
abbrev s_Contrary_init : Stmt := (cBody (top 2)).getD 0 (.Pass ⟨0, 0, 0, 0⟩)
theorem sc_Contrary_init : FnScope N_Contrary_init ["self", "upper", "lower"] (defScope s_Contrary_init) := ⟨rfl, rfl, rfl, by decide +kernel, rfl, by decide +kernel, by decide +kernel⟩
abbrev s_Unsettled_init : Stmt := (cBody (top 3)).getD 0 (.Pass ⟨0, 0, 0, 0⟩)
theorem sc_Unsettled_init : FnScope N_Unsettled_init ["self", "version"] (defScope s_Unsettled_init) := ⟨rfl, rfl, rfl, by decide +kernel, rfl, by decide +kernel, by decide +kernel⟩
abbrev s_l_deck : Stmt := top 24
theorem sc_l_deck : FnScope N_l_deck ["_law_script"] (defScope s_l_deck) := ⟨rfl, rfl, rfl, by decide +kernel, rfl, by decide +kernel, by decide +kernel⟩
abbrev s_l_mixed : Stmt := top 25
theorem sc_l_mixed : FnScope N_l_mixed ["_law_cell", "_law_turn"] (defScope s_l_mixed) := ⟨rfl, rfl, rfl, by decide +kernel, rfl, by decide +kernel, by decide +kernel⟩
abbrev s_l_draw : Stmt := top 26
theorem sc_l_draw : FnScope N_l_draw ["_law_deck_here", "_law_many"] (defScope s_l_draw) := ⟨rfl, rfl, rfl, by decide +kernel, rfl, by decide +kernel, by decide +kernel⟩
abbrev s_l_shape : Stmt := top 28
abbrev N_l_shape : List Str := ["_law_deck_here", "_law_most", "_law_versions", "_law_last", "_law_far", "_law_road", "_law_links", "_law_k", "_law_j", "_law_hit"]
theorem sc_l_shape : FnScope N_l_shape ["_law_deck_here", "_law_most"] (defScope s_l_shape) := ⟨rfl, rfl, rfl, by decide +kernel, rfl, by decide +kernel, by decide +kernel⟩
abbrev s_l_spans : Stmt := top 29
abbrev N_l_spans : List Str := ["_law_web", "_law_rows", "_law_version", "_law_found", "_law_two", "_law_low"]
theorem sc_l_spans : FnScope N_l_spans ["_law_web"] (defScope s_l_spans) := ⟨rfl, rfl, rfl, by decide +kernel, rfl, by decide +kernel, by decide +kernel⟩
abbrev s_l_wild : Stmt := top 34
abbrev N_l_wild : List Str := ["_law_deck_here", "_law_web", "_law_told", "_law_version"]
theorem sc_l_wild : FnScope N_l_wild ["_law_deck_here", "_law_web"] (defScope s_l_wild) := ⟨rfl, rfl, rfl, by decide +kernel, rfl, by decide +kernel, by decide +kernel⟩
abbrev s_l_answers : Stmt := top 33
abbrev N_l_answers : List Str := ["_law_deck_here", "_law_web", "_law_held", "_law_told", "_law_version"]
theorem sc_l_answers : FnScope N_l_answers ["_law_deck_here", "_law_web", "_law_held"] (defScope s_l_answers) := ⟨rfl, rfl, rfl, by decide +kernel, rfl, by decide +kernel, by decide +kernel⟩
abbrev s_l_lower : Stmt := top 30
abbrev N_l_lower : List Str := ["_law_deck_here", "_law_rows", "_law_held", "_law_version", "_law_low"]
theorem sc_l_lower : FnScope N_l_lower ["_law_deck_here", "_law_rows"] (defScope s_l_lower) := ⟨rfl, rfl, rfl, by decide +kernel, rfl, by decide +kernel, by decide +kernel⟩
abbrev s_l_walk : Stmt := top 39
theorem sc_l_walk : FnScope N_l_walk ["_law_deck_here", "_law_web", "_law_version"] (defScope s_l_walk) := ⟨rfl, rfl, rfl, by decide +kernel, rfl, by decide +kernel, by decide +kernel⟩
abbrev s_l_made_up : Stmt := top 40
theorem sc_l_made_up : FnScope N_l_made_up ["_law_deck_here", "_law_web"] (defScope s_l_made_up) := ⟨rfl, rfl, rfl, by decide +kernel, rfl, by decide +kernel, by decide +kernel⟩
abbrev s_lowest_lacking : Stmt := top 13
theorem sc_lowest_lacking : FnScope N_lowest_lacking ["shape", "answers"] (defScope s_lowest_lacking) := ⟨rfl, rfl, rfl, by decide +kernel, rfl, by decide +kernel, by decide +kernel⟩
abbrev s_refuse_contrary : Stmt := top 14
theorem sc_refuse_contrary : FnScope N_refuse_contrary ["yes", "lacking"] (defScope s_refuse_contrary) := ⟨rfl, rfl, rfl, by decide +kernel, rfl, by decide +kernel, by decide +kernel⟩
abbrev s_with_lower : Stmt := top 9
theorem sc_with_lower : FnScope N_with_lower ["shape", "starts"] (defScope s_with_lower) := ⟨rfl, rfl, rfl, by decide +kernel, rfl, by decide +kernel, by decide +kernel⟩
abbrev s_settled : Stmt := top 12
theorem sc_settled : FnScope N_settled ["shape", "answers"] (defScope s_settled) := ⟨rfl, rfl, rfl, by decide +kernel, rfl, by decide +kernel, by decide +kernel⟩
abbrev s_steps_up : Stmt := top 21
theorem sc_steps_up : FnScope N_steps_up ["shape", "answers"] (defScope s_steps_up) := ⟨rfl, rfl, rfl, by decide +kernel, rfl, by decide +kernel, by decide +kernel⟩
abbrev s_steps_down : Stmt := top 22
theorem sc_steps_down : FnScope N_steps_down ["shape", "answers"] (defScope s_steps_down) := ⟨rfl, rfl, rfl, by decide +kernel, rfl, by decide +kernel, by decide +kernel⟩
abbrev s_followed : Stmt := top 10
theorem sc_followed : FnScope N_followed ["steps", "version"] (defScope s_followed) := ⟨rfl, rfl, rfl, by decide +kernel, rfl, by decide +kernel, by decide +kernel⟩
abbrev s_paper : Stmt := top 20
theorem sc_paper : FnScope N_paper ["shape", "answers"] (defScope s_paper) := ⟨rfl, rfl, rfl, by decide +kernel, rfl, by decide +kernel, by decide +kernel⟩
abbrev s_l_odd : Stmt := top 31
theorem sc_l_odd : FnScope N_l_odd ["_law_deck_here"] (defScope s_l_odd) := ⟨rfl, rfl, rfl, by decide +kernel, rfl, by decide +kernel, by decide +kernel⟩
abbrev s_l_int : Stmt := top 27
theorem sc_l_int : FnScope N_l_int ["_law_thing"] (defScope s_l_int) := ⟨rfl, rfl, rfl, by decide +kernel, rfl, by decide +kernel, by decide +kernel⟩
abbrev s_l_bent : Stmt := top 32
theorem sc_l_bent : FnScope N_l_bent ["_law_deck_here", "_law_thing", "_law_depth"] (defScope s_l_bent) := ⟨rfl, rfl, rfl, by decide +kernel, rfl, by decide +kernel, by decide +kernel⟩
abbrev s_l_clash : Stmt := top 35
abbrev N_l_clash : List Str := ["_law_rows", "_law_answers_here", "_law_pairs", "_law_one", "_law_other"]
theorem sc_l_clash : FnScope N_l_clash ["_law_rows", "_law_answers_here"] (defScope s_l_clash) := ⟨rfl, rfl, rfl, by decide +kernel, rfl, by decide +kernel, by decide +kernel⟩
abbrev s_l_is_wayA : Stmt := top 36
theorem sc_l_is_wayA : FnScope N_l_is_wayA ["_law_web", "_law_thing"] (defScope s_l_is_wayA) := ⟨rfl, rfl, rfl, by decide +kernel, rfl, by decide +kernel, by decide +kernel⟩
abbrev s_l_is_paperA : Stmt := top 37
theorem sc_l_is_paperA : FnScope N_l_is_paperA ["_law_web", "_law_answers_here", "_law_thing"] (defScope s_l_is_paperA) := ⟨rfl, rfl, rfl, by decide +kernel, rfl, by decide +kernel, by decide +kernel⟩
abbrev s_l_truth : Stmt := top 38
theorem sc_l_truth : FnScope N_l_truth ["_law_found", "_law_due"] (defScope s_l_truth) := ⟨rfl, rfl, rfl, by decide +kernel, rfl, by decide +kernel, by decide +kernel⟩
abbrev s_are_contraryA : Stmt := top 17
theorem sc_are_contraryA : FnScope N_are_contraryA ["shape", "answers"] (defScope s_are_contraryA) := ⟨rfl, rfl, rfl, by decide +kernel, rfl, by decide +kernel, by decide +kernel⟩
abbrev s_is_pair : Stmt := top 6
theorem sc_is_pair : FnScope N_is_pair ["thing"] (defScope s_is_pair) := ⟨rfl, rfl, rfl, by decide +kernel, rfl, by decide +kernel, by decide +kernel⟩
abbrev s_is_int : Stmt := top 5
theorem sc_is_int : FnScope N_is_int ["thing"] (defScope s_is_int) := ⟨rfl, rfl, rfl, by decide +kernel, rfl, by decide +kernel, by decide +kernel⟩
abbrev s_is_ints : Stmt := top 7
theorem sc_is_ints : FnScope N_is_ints ["thing"] (defScope s_is_ints) := ⟨rfl, rfl, rfl, by decide +kernel, rfl, by decide +kernel, by decide +kernel⟩
abbrev s_is_walk_downA : Stmt := top 19
theorem sc_is_walk_downA : FnScope N_is_walk_downA ["thing", "links"] (defScope s_is_walk_downA) := ⟨rfl, rfl, rfl, by decide +kernel, rfl, by decide +kernel, by decide +kernel⟩
abbrev s_showsA : Stmt := top 18
theorem sc_showsA : FnScope N_showsA ["thing", "version", "told", "links"] (defScope s_showsA) := ⟨rfl, rfl, rfl, by decide +kernel, rfl, by decide +kernel, by decide +kernel⟩
abbrev s_right_paperA : Stmt := top 16
theorem sc_right_paperA : FnScope N_right_paperA ["shape", "answers", "thing"] (defScope s_right_paperA) := ⟨rfl, rfl, rfl, by decide +kernel, rfl, by decide +kernel, by decide +kernel⟩
abbrev s_law : Stmt := top 41
theorem sc_law : FnScope N_law ["_law_script"] (defScope s_law) := ⟨rfl, rfl, rfl, by decide +kernel, rfl, by decide +kernel, by decide +kernel⟩
structure Tx (K : PySem.W.Frag) (mg : Str → Option Value) : Type where
  fd_Contrary_init : FuncData
  F_Contrary_init : FunD K "__init__" "Contrary.__init__" (defArgs s_Contrary_init) (defBody s_Contrary_init) (defScope s_Contrary_init) [] [] (He.fAd K ("Contrary", some "__init__")) fd_Contrary_init
  fd_Unsettled_init : FuncData
  F_Unsettled_init : FunD K "__init__" "Unsettled.__init__" (defArgs s_Unsettled_init) (defBody s_Unsettled_init) (defScope s_Unsettled_init) [] [] (He.fAd K ("Unsettled", some "__init__")) fd_Unsettled_init
  fd_l_deck : FuncData
  F_l_deck : FnP K "_law_deck" s_l_deck (He.fAd K ("_law_deck", none)) fd_l_deck
  g_l_deck : mg "_law_deck" = some (.ref (He.fAd K ("_law_deck", none)))
  fd_l_mixed : FuncData
  F_l_mixed : FnP K "_law_mixed" s_l_mixed (He.fAd K ("_law_mixed", none)) fd_l_mixed
  g_l_mixed : mg "_law_mixed" = some (.ref (He.fAd K ("_law_mixed", none)))
  fd_l_draw : FuncData
  F_l_draw : FnP K "_law_draw" s_l_draw (He.fAd K ("_law_draw", none)) fd_l_draw
  g_l_draw : mg "_law_draw" = some (.ref (He.fAd K ("_law_draw", none)))
  fd_l_shape : FuncData
  F_l_shape : FnP K "_law_shape" s_l_shape (He.fAd K ("_law_shape", none)) fd_l_shape
  g_l_shape : mg "_law_shape" = some (.ref (He.fAd K ("_law_shape", none)))
  fd_l_spans : FuncData
  F_l_spans : FnP K "_law_spans" s_l_spans (He.fAd K ("_law_spans", none)) fd_l_spans
  g_l_spans : mg "_law_spans" = some (.ref (He.fAd K ("_law_spans", none)))
  fd_l_wild : FuncData
  F_l_wild : FnP K "_law_wild" s_l_wild (He.fAd K ("_law_wild", none)) fd_l_wild
  g_l_wild : mg "_law_wild" = some (.ref (He.fAd K ("_law_wild", none)))
  fd_l_answers : FuncData
  F_l_answers : FnP K "_law_answers" s_l_answers (He.fAd K ("_law_answers", none)) fd_l_answers
  g_l_answers : mg "_law_answers" = some (.ref (He.fAd K ("_law_answers", none)))
  fd_l_lower : FuncData
  F_l_lower : FnP K "_law_lower" s_l_lower (He.fAd K ("_law_lower", none)) fd_l_lower
  g_l_lower : mg "_law_lower" = some (.ref (He.fAd K ("_law_lower", none)))
  fd_l_walk : FuncData
  F_l_walk : FnP K "_law_walk" s_l_walk (He.fAd K ("_law_walk", none)) fd_l_walk
  g_l_walk : mg "_law_walk" = some (.ref (He.fAd K ("_law_walk", none)))
  fd_l_made_up : FuncData
  F_l_made_up : FnP K "_law_made_up" s_l_made_up (He.fAd K ("_law_made_up", none)) fd_l_made_up
  g_l_made_up : mg "_law_made_up" = some (.ref (He.fAd K ("_law_made_up", none)))
  fd_lowest_lacking : FuncData
  F_lowest_lacking : FnP K "lowest_lacking" s_lowest_lacking (He.fAd K ("lowest_lacking", none)) fd_lowest_lacking
  g_lowest_lacking : mg "lowest_lacking" = some (.ref (He.fAd K ("lowest_lacking", none)))
  fd_refuse_contrary : FuncData
  F_refuse_contrary : FnP K "refuse_contrary" s_refuse_contrary (He.fAd K ("refuse_contrary", none)) fd_refuse_contrary
  g_refuse_contrary : mg "refuse_contrary" = some (.ref (He.fAd K ("refuse_contrary", none)))
  fd_with_lower : FuncData
  F_with_lower : FnP K "with_lower" s_with_lower (He.fAd K ("with_lower", none)) fd_with_lower
  g_with_lower : mg "with_lower" = some (.ref (He.fAd K ("with_lower", none)))
  fd_settled : FuncData
  F_settled : FnP K "settled" s_settled (He.fAd K ("settled", none)) fd_settled
  g_settled : mg "settled" = some (.ref (He.fAd K ("settled", none)))
  fd_steps_up : FuncData
  F_steps_up : FnP K "steps_up" s_steps_up (He.fAd K ("steps_up", none)) fd_steps_up
  g_steps_up : mg "steps_up" = some (.ref (He.fAd K ("steps_up", none)))
  fd_steps_down : FuncData
  F_steps_down : FnP K "steps_down" s_steps_down (He.fAd K ("steps_down", none)) fd_steps_down
  g_steps_down : mg "steps_down" = some (.ref (He.fAd K ("steps_down", none)))
  fd_followed : FuncData
  F_followed : FnP K "followed" s_followed (He.fAd K ("followed", none)) fd_followed
  g_followed : mg "followed" = some (.ref (He.fAd K ("followed", none)))
  fd_paper : FuncData
  F_paper : FnP K "paper" s_paper (He.fAd K ("paper", none)) fd_paper
  g_paper : mg "paper" = some (.ref (He.fAd K ("paper", none)))
  fd_l_odd : FuncData
  F_l_odd : FnP K "_law_odd" s_l_odd (He.fAd K ("_law_odd", none)) fd_l_odd
  g_l_odd : mg "_law_odd" = some (.ref (He.fAd K ("_law_odd", none)))
  fd_l_int : FuncData
  F_l_int : FnP K "_law_int" s_l_int (He.fAd K ("_law_int", none)) fd_l_int
  g_l_int : mg "_law_int" = some (.ref (He.fAd K ("_law_int", none)))
  fd_l_bent : FuncData
  F_l_bent : FnP K "_law_bent" s_l_bent (He.fAd K ("_law_bent", none)) fd_l_bent
  g_l_bent : mg "_law_bent" = some (.ref (He.fAd K ("_law_bent", none)))
  fd_l_clash : FuncData
  F_l_clash : FnP K "_law_clash" s_l_clash (He.fAd K ("_law_clash", none)) fd_l_clash
  g_l_clash : mg "_law_clash" = some (.ref (He.fAd K ("_law_clash", none)))
  fd_l_is_wayA : FuncData
  F_l_is_wayA : FnP K "_law_is_way" s_l_is_wayA (He.fAd K ("_law_is_way", none)) fd_l_is_wayA
  g_l_is_wayA : mg "_law_is_way" = some (.ref (He.fAd K ("_law_is_way", none)))
  fd_l_is_paperA : FuncData
  F_l_is_paperA : FnP K "_law_is_paper" s_l_is_paperA (He.fAd K ("_law_is_paper", none)) fd_l_is_paperA
  g_l_is_paperA : mg "_law_is_paper" = some (.ref (He.fAd K ("_law_is_paper", none)))
  fd_l_truth : FuncData
  F_l_truth : FnP K "_law_truth" s_l_truth (He.fAd K ("_law_truth", none)) fd_l_truth
  g_l_truth : mg "_law_truth" = some (.ref (He.fAd K ("_law_truth", none)))
  fd_are_contraryA : FuncData
  F_are_contraryA : FnP K "are_contrary" s_are_contraryA (He.fAd K ("are_contrary", none)) fd_are_contraryA
  g_are_contraryA : mg "are_contrary" = some (.ref (He.fAd K ("are_contrary", none)))
  fd_is_pair : FuncData
  F_is_pair : FnP K "is_pair" s_is_pair (He.fAd K ("is_pair", none)) fd_is_pair
  g_is_pair : mg "is_pair" = some (.ref (He.fAd K ("is_pair", none)))
  fd_is_int : FuncData
  F_is_int : FnP K "is_int" s_is_int (He.fAd K ("is_int", none)) fd_is_int
  g_is_int : mg "is_int" = some (.ref (He.fAd K ("is_int", none)))
  fd_is_ints : FuncData
  F_is_ints : FnP K "is_ints" s_is_ints (He.fAd K ("is_ints", none)) fd_is_ints
  g_is_ints : mg "is_ints" = some (.ref (He.fAd K ("is_ints", none)))
  fd_is_walk_downA : FuncData
  F_is_walk_downA : FnP K "is_walk_down" s_is_walk_downA (He.fAd K ("is_walk_down", none)) fd_is_walk_downA
  g_is_walk_downA : mg "is_walk_down" = some (.ref (He.fAd K ("is_walk_down", none)))
  fd_showsA : FuncData
  F_showsA : FnP K "shows" s_showsA (He.fAd K ("shows", none)) fd_showsA
  g_showsA : mg "shows" = some (.ref (He.fAd K ("shows", none)))
  fd_right_paperA : FuncData
  F_right_paperA : FnP K "right_paper" s_right_paperA (He.fAd K ("right_paper", none)) fd_right_paperA
  g_right_paperA : mg "right_paper" = some (.ref (He.fAd K ("right_paper", none)))
  fd_law : FuncData
  F_law : FnP K "law" s_law (He.fAd K ("law", none)) fd_law
  z_all : mg "all" = none
  z_bool : mg "bool" = none
  z_int : mg "int" = none
  z_isinstance : mg "isinstance" = none
  z_len : mg "len" = none
  z_list : mg "list" = none
  z_min : mg "min" = none
  z_range : mg "range" = none
  z_reversed : mg "reversed" = none
  z_sorted : mg "sorted" = none
  z_str : mg "str" = none
  z_tuple : mg "tuple" = none
  z_zip : mg "zip" = none
  gc_HouseError : mg "HouseError" = some (.ref (He.ga K "HouseError"))
  gc_Contrary : mg "Contrary" = some (.ref (He.ga K "Contrary"))
  gc_Unsettled : mg "Unsettled" = some (.ref (He.ga K "Unsettled"))
  more : Fw.K23C K
theorem Tx.heir_HouseError {K : PySem.W.Frag} {mg : Str → Option Value} (T : Tx K mg) : HeirC K (He.ga K "HouseError") := T.more.heir
theorem Tx.oex_Contrary {K : PySem.W.Frag} {mg : Str → Option Value} (T : Tx K mg) : OexC K (He.ga K "Contrary") := T.more.c.oex
theorem Tx.ini_Contrary {K : PySem.W.Frag} {mg : Str → Option Value} (T : Tx K mg) : PySem.W.findIn K (.ref (He.ga K "Contrary")) "__init__" = some (some (.ref (He.fAd K ("Contrary", some "__init__")))) := T.more.c.ini
theorem Tx.tin_Contrary {K : PySem.W.Frag} {mg : Str → Option Value} (T : Tx K mg) : PySem.W.typeIn K (.ref (He.fAd K ("Contrary", some "__init__"))) = some (.type "function") := T.more.c.tin
theorem Tx.oex_Unsettled {K : PySem.W.Frag} {mg : Str → Option Value} (T : Tx K mg) : OexC K (He.ga K "Unsettled") := T.more.u.oex
theorem Tx.ini_Unsettled {K : PySem.W.Frag} {mg : Str → Option Value} (T : Tx K mg) : PySem.W.findIn K (.ref (He.ga K "Unsettled")) "__init__" = some (some (.ref (He.fAd K ("Unsettled", some "__init__")))) := T.more.u.ini
theorem Tx.tin_Unsettled {K : PySem.W.Frag} {mg : Str → Option Value} (T : Tx K mg) : PySem.W.typeIn K (.ref (He.fAd K ("Unsettled", some "__init__"))) = some (.type "function") := T.more.u.tin
section
variable {P : Program} {w : World} {K : PySem.W.Frag} {mg : Str → Option Value} {base : Heap}
theorem b_Contrary_init (T : Tx K mg) : Binds K T.fd_Contrary_init ["self", "upper", "lower"] [] := T.F_Contrary_init.bindsN fun _ _ _ _ _ _ us hl => match us, hl with | [_, _, _], _ => rfl
theorem ok_Contrary_init (T : Tx K mg) : FnOk P w K mg base CX0 1 (He.fAd K ("Contrary", some "__init__")) T.fd_Contrary_init ["self", "upper", "lower"] (sp_Contrary_init K) := by
  refine T.F_Contrary_init.ok sc_Contrary_init (fun vs H Q E h => len_Contrary_init h) (fun cdv A outer s H vs Q E hr h => ⟨t_Contrary_init K, PSs.nox ?_, pure_Contrary_init h⟩)
  exact (pss_cons (ps_expr (pe_heir (by rfl) T.gc_HouseError T.heir_HouseError (pa_cons (pv 0) (pa_cons pe_str pa_nil))))
      (pss_cons (ps_ost (pv 0) (pv 1))
      (pss_one (ps_ost (pv 0) (pv 2)))))
theorem b_Unsettled_init (T : Tx K mg) : Binds K T.fd_Unsettled_init ["self", "version"] [] := T.F_Unsettled_init.bindsN fun _ _ _ _ _ _ us hl => match us, hl with | [_, _], _ => rfl
theorem ok_Unsettled_init (T : Tx K mg) : FnOk P w K mg base CX0 1 (He.fAd K ("Unsettled", some "__init__")) T.fd_Unsettled_init ["self", "version"] (sp_Unsettled_init K) := by
  refine T.F_Unsettled_init.ok sc_Unsettled_init (fun vs H Q E h => len_Unsettled_init h) (fun cdv A outer s H vs Q E hr h => ⟨t_Unsettled_init K, PSs.nox ?_, pure_Unsettled_init h⟩)
  exact (pss_cons (ps_expr (pe_heir (by rfl) T.gc_HouseError T.heir_HouseError (pa_cons (pv 0) (pa_cons pe_str pa_nil))))
      (pss_one (ps_ost (pv 0) (pv 1))))
theorem b_l_deck (T : Tx K mg) : Binds K T.fd_l_deck ["_law_script"] [] := T.F_l_deck.bindsN fun _ _ _ _ _ _ us hl => match us, hl with | [_], _ => rfl
theorem ok_l_deck (T : Tx K mg) : FnOk P w K mg base CX0 1 (He.fAd K ("_law_deck", none)) T.fd_l_deck ["_law_script"] (sp_l_deck K) := by
  refine T.F_l_deck.ok sc_l_deck (fun vs H Q E h => len_l_deck h) (fun cdv A outer s H vs Q E hr h => ⟨t_l_deck K, PSs.nox ?_, pure_l_deck h⟩)
  exact (pss_one (ps_ret (pe_lst (pa_cons (pe_callTy call_list_of (by rfl) T.z_list (by decide +kernel) (pa_cons (pv 0) pa_nil)) (pa_cons pe_int (pa_cons pe_int (pa_cons pe_int pa_nil)))))))
theorem b_l_mixed (T : Tx K mg) : Binds K T.fd_l_mixed ["_law_cell", "_law_turn"] [] := T.F_l_mixed.bindsN fun _ _ _ _ _ _ us hl => match us, hl with | [_, _], _ => rfl
theorem ok_l_mixed (T : Tx K mg) : FnOk P w K mg base CX0 1 (He.fAd K ("_law_mixed", none)) T.fd_l_mixed ["_law_cell", "_law_turn"] (sp_l_mixed K) := by
  refine T.F_l_mixed.ok sc_l_mixed (fun vs H Q E h => len_l_mixed h) (fun cdv A outer s H vs Q E hr h => ⟨t_l_mixed K, PSs.nox ?_, pure_l_mixed h⟩)
  exact (pss_one (ps_ret (pe_op op_mod (pe_op op_pow (pe_op op_add (pe_op op_add (pe_op op_mod (pv 0) pe_int) (pe_op op_mul (pv 1) pe_int)) pe_int) pe_int) pe_int)))
theorem b_l_draw (T : Tx K mg) : Binds K T.fd_l_draw ["_law_deck_here", "_law_many"] [] := T.F_l_draw.bindsN fun _ _ _ _ _ _ us hl => match us, hl with | [_, _], _ => rfl
theorem ok_l_draw (T : Tx K mg) : FnOk P w K mg base CX0 2 (He.fAd K ("_law_draw", none)) T.fd_l_draw ["_law_deck_here", "_law_many"] (sp_l_draw K) := by
  refine T.F_l_draw.ok sc_l_draw (fun vs H Q E h => len_l_draw h) (fun cdv A outer s H vs Q E hr h => ⟨t_l_draw K, PSs.nox ?_, pure_l_draw h⟩)
  exact (pss_cons (ps_set (i := 2) sc_l_draw.nd rfl (Or.inl rfl) (pe_ix ix_seq (pv 0) pe_int (fun _ _ => rfl)))
      (pss_cons (ps_asg (pe_op op_add (pe_ix ix_seq (pv 0) pe_int (fun _ _ => rfl)) pe_int) (pg_sub (pv 0) pe_int set_list))
      (pss_cons (ps_if (PW.pt (pw_and (pt_cmpR op_eq (pe_ix ix_seq (pv 0) pe_int (fun _ _ => rfl)) pe_int (nomark _)) (pw_and1 (pt_cmpR op_lt (pe_ix ix_seq (pv 0) pe_int (fun _ _ => rfl)) (pe_callB call_len (by rfl) T.z_len PySem.boot_len (pa_cons (pv 2) pa_nil)) (nomark _))))) (pss_cons (ps_asg (pe_op op_add (pe_ix ix_seq (pv 0) pe_int (fun _ _ => rfl)) pe_int) (pg_sub (pv 0) pe_int set_list))
      (pss_cons (ps_if (pt_cmpR op_lt (pe_ix ix_seq (pv 2) (pe_op op_sub (pe_ix ix_seq (pv 0) pe_int (fun _ _ => rfl)) pe_int) (fun _ _ => rfl)) (pe_op op_pow pe_int pe_int) (nomark _)) (pss_one (ps_ret (pe_op op_mod (pe_call (ok_l_mixed T) (hr.mono (by decide)) (by rfl) T.g_l_mixed T.F_l_mixed.kp (b_l_mixed T) .nil pass0 (pa_cons (pe_ix ix_seq (pv 2) (pe_op op_sub (pe_ix ix_seq (pv 0) pe_int (fun _ _ => rfl)) pe_int) (fun _ _ => rfl)) (pa_cons (pe_ix ix_seq (pv 0) pe_int (fun _ _ => rfl)) pa_nil))) (pv 1)))) pss_nil)
      (pss_one (ps_asg (pe_ix ix_seq (pv 2) (pe_op op_sub (pe_ix ix_seq (pv 0) pe_int (fun _ _ => rfl)) pe_int) (fun _ _ => rfl)) (pg_sub (pv 0) pe_int set_list))))) pss_nil)
      (pss_cons (ps_if (pt_cmpR op_gt (pe_ix ix_seq (pv 0) pe_int (fun _ _ => rfl)) pe_int (nomark _)) (pss_cons (ps_set (i := 3) sc_l_draw.nd rfl (Or.inl rfl) (pe_op op_mod (pe_ix ix_seq (pv 0) pe_int (fun _ _ => rfl)) (pv 1)))
      (pss_cons (ps_asg (pe_op op_fdivW (pe_ix ix_seq (pv 0) pe_int (fun _ _ => rfl)) (pv 1)) (pg_sub (pv 0) pe_int set_list))
      (pss_one (ps_ret (pv 3))))) pss_nil)
      (pss_cons (ps_set (i := 4) sc_l_draw.nd rfl (Or.inl rfl) (pe_op op_mul (pe_ix ix_seq (pv 0) pe_int (fun _ _ => rfl)) pe_int))
      (pss_cons (ps_if (pt_cmpR op_gt (pe_callB call_len (by rfl) T.z_len PySem.boot_len (pa_cons (pv 2) pa_nil)) pe_int (nomark _)) (pss_one (ps_set (i := 4) sc_l_draw.nd rfl (Or.inl rfl) (pe_op op_add (pv 4) (pe_op op_mod (pe_ix ix_seq (pv 2) (pe_op op_mod (pe_op op_mul (pe_ix ix_seq (pv 0) pe_int (fun _ _ => rfl)) pe_int) (pe_callB call_len (by rfl) T.z_len PySem.boot_len (pa_cons (pv 2) pa_nil))) (fun _ _ => rfl)) pe_int)))) pss_nil)
      (pss_one (ps_ret (pe_op op_mod (pe_call (ok_l_mixed T) (hr.mono (by decide)) (by rfl) T.g_l_mixed T.F_l_mixed.kp (b_l_mixed T) .nil pass0 (pa_cons (pv 4) (pa_cons (pe_ix ix_seq (pv 0) pe_int (fun _ _ => rfl)) pa_nil))) (pv 1))))))))))
theorem b_l_shape (T : Tx K mg) : Binds K T.fd_l_shape ["_law_deck_here", "_law_most"] [] := T.F_l_shape.bindsN fun _ _ _ _ _ _ us hl => match us, hl with | [_, _], _ => rfl
theorem ok_l_shape (T : Tx K mg) : FnOk P w K mg base CX0 3 (He.fAd K ("_law_shape", none)) T.fd_l_shape ["_law_deck_here", "_law_most"] (sp_l_shape K) := by
  refine T.F_l_shape.ok sc_l_shape (fun vs H Q E h => len_l_shape h) (fun cdv A outer s H vs Q E hr h => ⟨t_l_shape K, PSs.nox ?_, pure_l_shape h⟩)
  exact (pss_cons (ps_set (i := 2) sc_l_shape.nd rfl (Or.inl rfl) (pe_lst pa_nil))
      (pss_cons (ps_set (i := 3) sc_l_shape.nd rfl (Or.inl rfl) (pe_un un_neg pe_int))
      (pss_cons (ps_set (i := 4) sc_l_shape.nd rfl (Or.inl rfl) (pe_call (ok_l_draw T) (hr.mono (by decide)) (by rfl) T.g_l_draw T.F_l_draw.kp (b_l_draw T) .nil pass0 (pa_cons (pv 0) (pa_cons pe_int pa_nil))))
      (pss_cons (ps_set (i := 5) sc_l_shape.nd rfl (Or.inl rfl) (pe_call (ok_l_draw T) (hr.mono (by decide)) (by rfl) T.g_l_draw T.F_l_draw.kp (b_l_draw T) .nil pass0 (pa_cons (pv 0) (pa_cons pe_int pa_nil))))
      (pss_cons (ps_set (i := 6) sc_l_shape.nd rfl (Or.inl rfl) (pe_lst pa_nil))
      (pss_cons (ps_for PassesOwn.never rfl (pi_range1 (by rfl) T.z_range (pa_cons (pe_call (ok_l_draw T) (hr.mono (by decide)) (by rfl) T.g_l_draw T.F_l_draw.kp (b_l_draw T) .nil pass0 (pa_cons (pv 0) (pa_cons (pe_op op_add (pv 1) pe_int) pa_nil))) pa_nil)) (pg_name (i := 7) sc_l_shape.nd rfl (Or.inl rfl)) (pss_cons (ps_set (i := 3) sc_l_shape.nd rfl (Or.inl rfl) (pe_op op_add (pe_op op_add (pv 3) pe_int) (pe_call (ok_l_draw T) (hr.mono (by decide)) (by rfl) T.g_l_draw T.F_l_draw.kp (b_l_draw T) .nil pass0 (pa_cons (pv 0) (pa_cons pe_int pa_nil)))))
      (pss_cons (ps_if (PW.pt (pw_and (pt_cmpR op_eq (pv 4) pe_int (nomark _)) (pw_and1 (pt_cmpR op_eq (pe_call (ok_l_draw T) (hr.mono (by decide)) (by rfl) T.g_l_draw T.F_l_draw.kp (b_l_draw T) .nil pass0 (pa_cons (pv 0) (pa_cons pe_int pa_nil))) pe_int (nomark _))))) (pss_one (ps_set (i := 3) sc_l_shape.nd rfl (Or.inl rfl) (pe_op op_add (pv 3) (pe_call (ok_l_draw T) (hr.mono (by decide)) (by rfl) T.g_l_draw T.F_l_draw.kp (b_l_draw T) .nil pass0 (pa_cons (pv 0) (pa_cons (pe_op op_pow pe_int pe_int) pa_nil)))))) pss_nil)
      (pss_cons (ps_for PassesOwn.never rfl (pi_range1 (by rfl) T.z_range (pa_cons (pv 7) pa_nil)) (pg_name (i := 8) sc_l_shape.nd rfl (Or.inl rfl)) (pss_cons (ps_set (i := 9) sc_l_shape.nd rfl (Or.inl rfl) (pe_cmpR op_eq (pe_call (ok_l_draw T) (hr.mono (by decide)) (by rfl) T.g_l_draw T.F_l_draw.kp (b_l_draw T) .nil pass0 (pa_cons (pv 0) (pa_cons (pe_ix ix_seq (pe_lst (pa_cons pe_int (pa_cons pe_int (pa_cons pe_int (pa_cons pe_int pa_nil))))) (pv 5) (fun _ _ => rfl)) pa_nil))) pe_int (nomark _)))
      (pss_cons (ps_if (PW.pt (pw_and (pt_cmpR op_eq (pv 5) pe_int (nomark _)) (pw_and1 (pt_cmpR op_gt (pe_op op_sub (pv 7) (pv 8)) pe_int (nomark _))))) (pss_one (ps_set (i := 9) sc_l_shape.nd rfl (Or.inl rfl) pe_bl)) pss_nil)
      (pss_cons (ps_if (PW.pt (pw_and (pt_cmpR op_eq (pv 5) pe_int (nomark _)) (pw_and1 (pt_cmpR op_eq (pv 8) (pe_op op_sub (pv 7) pe_int) (nomark _))))) (pss_one (ps_set (i := 9) sc_l_shape.nd rfl (Or.inl rfl) pe_bl)) pss_nil)
      (pss_one (ps_if (pt_val (pv 9)) (pss_one (ps_expr (pe_bm PySem.F.plainAttrs_list PySem.F.slot_list_append PySem.F.type_list_append mt_append (pv 6) (pa_cons (pe_tup (pa_cons (pv 3) (pa_cons (pe_ix ix_seq (pv 2) (pv 8) (fun _ _ => rfl)) pa_nil))) pa_nil)))) pss_nil))))))
      (pss_one (ps_expr (pe_bm PySem.F.plainAttrs_list PySem.F.slot_list_append PySem.F.type_list_append mt_append (pv 2) (pa_cons (pv 3) pa_nil))))))))
      (pss_one (ps_ret (pe_tup (pa_cons (pe_callTy call_tuple_of (by rfl) T.z_tuple (by decide +kernel) (pa_cons (pv 2) pa_nil)) (pa_cons (pe_callTy call_tuple_of (by rfl) T.z_tuple (by decide +kernel) (pa_cons (pv 6) pa_nil)) pa_nil)))))))))))
theorem b_l_spans (T : Tx K mg) : Binds K T.fd_l_spans ["_law_web"] [] := T.F_l_spans.bindsN fun _ _ _ _ _ _ us hl => match us, hl with | [_], _ => rfl
theorem ok_l_spans (T : Tx K mg) : FnOk P w K mg base CX0 1 (He.fAd K ("_law_spans", none)) T.fd_l_spans ["_law_web"] (sp_l_spans K) := by
  refine T.F_l_spans.ok sc_l_spans (fun vs H Q E h => len_l_spans h) (fun cdv A outer s H vs Q E hr h => ⟨t_l_spans K, PSs.nox ?_, pure_l_spans h⟩)
  exact (pss_cons (ps_set (i := 1) sc_l_spans.nd rfl (Or.inl rfl) pe_dnewK)
      (pss_cons (ps_for PassesOwn.never rfl (pi_tup (pe_ix ix_seq (pv 0) pe_int (fun _ _ => rfl))) (pg_name (i := 2) sc_l_spans.nd rfl (Or.inl rfl)) (pss_cons (ps_set (i := 3) sc_l_spans.nd rfl (Or.inl rfl) (pe_disp (pps_cons (pv 2) pe_bl pps_nil) (by rfl) (by rfl) (fun z => by cases z) (by decide)))
      (pss_cons (ps_for PassesOwn.never rfl (pi_tup (pe_ix ix_seq (pv 0) pe_int (fun _ _ => rfl))) (pg_name (i := 4) sc_l_spans.nd rfl (Or.inl rfl)) (pss_one (ps_if (pt_cmpR op_eq (pe_ix ix_seq (pv 4) pe_int (fun _ _ => rfl)) (pv 2) (nomark _)) (pss_one (ps_for PassesOwn.never rfl (pi_list (pe_dget (hu_of hr) (pv 1) (pe_ix ix_seq (pv 4) pe_int (fun _ _ => rfl)) (fun _ _ => rfl))) (pg_name (i := 5) sc_l_spans.nd rfl (Or.inl rfl)) (pss_one (ps_dput (hu_of hr) (pv 3) (pv 5) pe_bl rfl)))) pss_nil)))
      (pss_one (ps_dput (hu_of hr) (pv 1) (pv 2) (pe_callB (call_sortedDI rfl) (by rfl) T.z_sorted (by decide +kernel) (pa_cons (pv 3) pa_nil)) rfl)))))
      (pss_one (ps_ret (pv 1)))))
theorem b_l_wild (T : Tx K mg) : Binds K T.fd_l_wild ["_law_deck_here", "_law_web"] [] := T.F_l_wild.bindsN fun _ _ _ _ _ _ us hl => match us, hl with | [_, _], _ => rfl
theorem ok_l_wild (T : Tx K mg) : FnOk P w K mg base CX0 3 (He.fAd K ("_law_wild", none)) T.fd_l_wild ["_law_deck_here", "_law_web"] (sp_l_wild K) := by
  refine T.F_l_wild.ok sc_l_wild (fun vs H Q E h => len_l_wild h) (fun cdv A outer s H vs Q E hr h => ⟨t_l_wild K, PSs.nox ?_, pure_l_wild h⟩)
  exact (pss_cons (ps_set (i := 2) sc_l_wild.nd rfl (Or.inl rfl) (pe_lst pa_nil))
      (pss_cons (ps_for PassesOwn.never rfl (pi_tup (pe_ix ix_seq (pv 1) pe_int (fun _ _ => rfl))) (pg_name (i := 3) sc_l_wild.nd rfl (Or.inl rfl)) (pss_one (ps_if (pt_cmpR op_gt (pe_call (ok_l_draw T) (hr.mono (by decide)) (by rfl) T.g_l_draw T.F_l_draw.kp (b_l_draw T) .nil pass0 (pa_cons (pv 0) (pa_cons pe_int pa_nil))) pe_int (nomark _)) (pss_one (ps_expr (pe_bm PySem.F.plainAttrs_list PySem.F.slot_list_insert PySem.F.type_list_insert mt_insert (pv 2) (pa_cons (pe_call (ok_l_draw T) (hr.mono (by decide)) (by rfl) T.g_l_draw T.F_l_draw.kp (b_l_draw T) .nil pass0 (pa_cons (pv 0) (pa_cons (pe_op op_add (pe_callB call_len (by rfl) T.z_len PySem.boot_len (pa_cons (pv 2) pa_nil)) pe_int) pa_nil))) (pa_cons (pe_tup (pa_cons (pv 3) (pa_cons (pe_cmpR op_eq (pe_call (ok_l_draw T) (hr.mono (by decide)) (by rfl) T.g_l_draw T.F_l_draw.kp (b_l_draw T) .nil pass0 (pa_cons (pv 0) (pa_cons pe_int pa_nil))) pe_int (nomark _)) pa_nil))) pa_nil))))) pss_nil)))
      (pss_one (ps_ret (pe_callTy call_tuple_of (by rfl) T.z_tuple (by decide +kernel) (pa_cons (pv 2) pa_nil))))))
theorem b_l_answers (T : Tx K mg) : Binds K T.fd_l_answers ["_law_deck_here", "_law_web", "_law_held"] [] := T.F_l_answers.bindsN fun _ _ _ _ _ _ us hl => match us, hl with | [_, _, _], _ => rfl
theorem ok_l_answers (T : Tx K mg) : FnOk P w K mg base CX0 3 (He.fAd K ("_law_answers", none)) T.fd_l_answers ["_law_deck_here", "_law_web", "_law_held"] (sp_l_answers K) := by
  refine T.F_l_answers.ok sc_l_answers (fun vs H Q E h => len_l_answers h) (fun cdv A outer s H vs Q E hr h => ⟨t_l_answers K, PSs.nox ?_, pure_l_answers h⟩)
  exact (pss_cons (ps_set (i := 3) sc_l_answers.nd rfl (Or.inl rfl) (pe_lst pa_nil))
      (pss_cons (ps_for PassesOwn.never rfl (pi_tup (pe_ix ix_seq (pv 1) pe_int (fun _ _ => rfl))) (pg_name (i := 4) sc_l_answers.nd rfl (Or.inl rfl)) (pss_one (ps_if (pt_cmpR op_gt (pe_call (ok_l_draw T) (hr.mono (by decide)) (by rfl) T.g_l_draw T.F_l_draw.kp (b_l_draw T) .nil pass0 (pa_cons (pv 0) (pa_cons pe_int pa_nil))) pe_int (nomark _)) (pss_one (ps_expr (pe_bm PySem.F.plainAttrs_list PySem.F.slot_list_insert PySem.F.type_list_insert mt_insert (pv 3) (pa_cons (pe_call (ok_l_draw T) (hr.mono (by decide)) (by rfl) T.g_l_draw T.F_l_draw.kp (b_l_draw T) .nil pass0 (pa_cons (pv 0) (pa_cons (pe_op op_add (pe_callB call_len (by rfl) T.z_len PySem.boot_len (pa_cons (pv 3) pa_nil)) pe_int) pa_nil))) (pa_cons (pe_tup (pa_cons (pv 4) (pa_cons (pe_cmpR op_in_seq (pv 4) (pv 2) (by rfl)) pa_nil))) pa_nil))))) pss_nil)))
      (pss_one (ps_ret (pe_callTy call_tuple_of (by rfl) T.z_tuple (by decide +kernel) (pa_cons (pv 3) pa_nil))))))
theorem b_l_lower (T : Tx K mg) : Binds K T.fd_l_lower ["_law_deck_here", "_law_rows"] [] := T.F_l_lower.bindsN fun _ _ _ _ _ _ us hl => match us, hl with | [_, _], _ => rfl
theorem ok_l_lower (T : Tx K mg) : FnOk P w K mg base CX0 3 (He.fAd K ("_law_lower", none)) T.fd_l_lower ["_law_deck_here", "_law_rows"] (sp_l_lower K) := by
  refine T.F_l_lower.ok sc_l_lower (fun vs H Q E h => len_l_lower h) (fun cdv A outer s H vs Q E hr h => ⟨t_l_lower K, PSs.nox ?_, pure_l_lower h⟩)
  exact (pss_cons (ps_set (i := 2) sc_l_lower.nd rfl (Or.inl rfl) pe_dnewK)
      (pss_cons (ps_lock (ps_for PassesOwn.never rfl (pi_keys (pv 1)) (pg_name (i := 3) sc_l_lower.nd rfl (Or.inl rfl)) (pss_one (ps_if (pt_cmpR op_eq (pe_call (ok_l_draw T) (hr.mono (by decide)) (by rfl) T.g_l_draw T.F_l_draw.kp (b_l_draw T) .nil pass0 (pa_cons (pv 0) (pa_cons pe_int pa_nil))) pe_int (nomark _)) (pss_one (ps_for PassesOwn.never rfl (pi_list (pe_dget (hu_of hr) (pv 1) (pv 3) (fun _ _ => rfl))) (pg_name (i := 4) sc_l_lower.nd rfl (Or.inl rfl)) (pss_one (ps_dput (hu_of hr) (pv 2) (pv 4) pe_bl rfl)))) pss_nil))))
      (pss_one (ps_ret (pe_callB (call_sortedDI rfl) (by rfl) T.z_sorted (by decide +kernel) (pa_cons (pv 2) pa_nil))))))
theorem b_l_walk (T : Tx K mg) : Binds K T.fd_l_walk ["_law_deck_here", "_law_web", "_law_version"] [] := T.F_l_walk.bindsN fun _ _ _ _ _ _ us hl => match us, hl with | [_, _, _], _ => rfl
theorem ok_l_walk (T : Tx K mg) : FnOk P w K mg base CX0 3 (He.fAd K ("_law_walk", none)) T.fd_l_walk ["_law_deck_here", "_law_web", "_law_version"] (sp_l_walk K) := by
  refine T.F_l_walk.ok sc_l_walk (fun vs H Q E h => len_l_walk h) (fun cdv A outer s H vs Q E hr h => ⟨t_l_walk K, PSs.nox ?_, pure_l_walk h⟩)
  exact (pss_cons (ps_set (i := 3) sc_l_walk.nd rfl (Or.inr rfl) (pe_lst (pa_cons (pv 2) pa_nil)))
      (pss_cons (ps_for PassesOwn.never rfl (pi_range1 (by rfl) T.z_range (pa_cons (pe_call (ok_l_draw T) (hr.mono (by decide)) (by rfl) T.g_l_draw T.F_l_draw.kp (b_l_draw T) .nil pass0 (pa_cons (pv 0) (pa_cons pe_int pa_nil))) pa_nil)) (pg_name (i := 4) sc_l_walk.nd rfl (Or.inl rfl)) (pss_cons (ps_setLc (i := 5) (own := [("_law_two", 6)]) (g := (gName 6)) (tt := (tTest (tOp rEq (tOp (rIx K) (tVar 6) (tC (.int 0))) (tOp (rIx K) (tVar 3) (tUn rNegI (tC (.int 1))))))) (te := (tOp (rIx K) (tVar 6) (tC (.int 1)))) rfl sc_l_walk.nd rfl rfl (sw_true rfl rfl rfl (by decide +kernel)) (pi_tup (pe_ix ix_seq (pv 1) pe_int (fun _ _ => rfl))) (blkOk_by (own := [("_law_two", 6)]) (N := N_l_walk) (sc := defScope s_l_walk) (by decide +kernel)) (fun _ _ _ _ _ => (pg_name (i := 6) sc_l_walk.nd rfl (Or.inl rfl))) (fun _ _ _ _ _ => (pts_one (pt_cmpR op_eq (pe_ix ix_seq (pv 6) pe_int (fun _ _ => rfl)) (pe_ix ix_seq (pv 3) (pe_un un_neg pe_int) (fun _ _ => rfl)) (nomark _)))) (fun _ _ _ _ _ => (pe_ix ix_seq (pv 6) pe_int (fun _ _ => rfl))))
      (pss_one (ps_if (pt_cmpR op_gt (pe_callB call_len (by rfl) T.z_len PySem.boot_len (pa_cons (pv 5) pa_nil)) pe_int (nomark _)) (pss_one (ps_expr (pe_bm PySem.F.plainAttrs_list PySem.F.slot_list_append PySem.F.type_list_append mt_append (pv 3) (pa_cons (pe_ix ix_seq (pv 5) (pe_call (ok_l_draw T) (hr.mono (by decide)) (by rfl) T.g_l_draw T.F_l_draw.kp (b_l_draw T) .nil pass0 (pa_cons (pv 0) (pa_cons (pe_callB call_len (by rfl) T.z_len PySem.boot_len (pa_cons (pv 5) pa_nil)) pa_nil))) (fun _ _ => rfl)) pa_nil)))) pss_nil))))
      (pss_one (ps_ret (pe_callTy call_tuple_of (by rfl) T.z_tuple (by decide +kernel) (pa_cons (pv 3) pa_nil))))))
theorem b_l_made_up (T : Tx K mg) : Binds K T.fd_l_made_up ["_law_deck_here", "_law_web"] [] := T.F_l_made_up.bindsN fun _ _ _ _ _ _ us hl => match us, hl with | [_, _], _ => rfl
theorem ok_l_made_up (T : Tx K mg) : FnOk P w K mg base CX0 4 (He.fAd K ("_law_made_up", none)) T.fd_l_made_up ["_law_deck_here", "_law_web"] (sp_l_made_up K) := by
  refine T.F_l_made_up.ok sc_l_made_up (fun vs H Q E h => len_l_made_up h) (fun cdv A outer s H vs Q E hr h => ⟨t_l_made_up K, PSs.nox ?_, pure_l_made_up h⟩)
  exact (pss_cons (ps_set (i := 2) sc_l_made_up.nd rfl (Or.inl rfl) (pe_lst pa_nil))
      (pss_cons (ps_for PassesOwn.never rfl (pi_tup (pe_ix ix_seq (pv 1) pe_int (fun _ _ => rfl))) (pg_name (i := 3) sc_l_made_up.nd rfl (Or.inl rfl)) (pss_cons (ps_set (i := 4) sc_l_made_up.nd rfl (Or.inl rfl) (pe_ix ix_seq (pe_ix ix_seq (pv 1) pe_int (fun _ _ => rfl)) (pe_call (ok_l_draw T) (hr.mono (by decide)) (by rfl) T.g_l_draw T.F_l_draw.kp (b_l_draw T) .nil pass0 (pa_cons (pv 0) (pa_cons (pe_callB call_len (by rfl) T.z_len PySem.boot_len (pa_cons (pe_ix ix_seq (pv 1) pe_int (fun _ _ => rfl)) pa_nil)) pa_nil))) (fun _ _ => rfl)))
      (pss_cons (ps_set (i := 5) sc_l_made_up.nd rfl (Or.inl rfl) (pe_call (ok_l_walk T) (hr.mono (by decide)) (by rfl) T.g_l_walk T.F_l_walk.kp (b_l_walk T) .nil pass0 (pa_cons (pv 0) (pa_cons (pv 1) (pa_cons (pv 4) pa_nil)))))
      (pss_cons (ps_if (pt_cmpR op_eq (pe_call (ok_l_draw T) (hr.mono (by decide)) (by rfl) T.g_l_draw T.F_l_draw.kp (b_l_draw T) .nil pass0 (pa_cons (pv 0) (pa_cons pe_int pa_nil))) pe_int (nomark _)) (pss_one (ps_set (i := 5) sc_l_made_up.nd rfl (Or.inl rfl) (pe_call (ok_l_walk T) (hr.mono (by decide)) (by rfl) T.g_l_walk T.F_l_walk.kp (b_l_walk T) .nil pass0 (pa_cons (pv 0) (pa_cons (pv 1) (pa_cons (pv 3) pa_nil)))))) pss_nil)
      (pss_one (ps_expr (pe_bm PySem.F.plainAttrs_list PySem.F.slot_list_append PySem.F.type_list_append mt_append (pv 2) (pa_cons (pe_tup (pa_cons (pe_ix ix_seq (pe_lst (pa_cons pe_str (pa_cons pe_str pa_nil))) (pe_call (ok_l_draw T) (hr.mono (by decide)) (by rfl) T.g_l_draw T.F_l_draw.kp (b_l_draw T) .nil pass0 (pa_cons (pv 0) (pa_cons pe_int pa_nil))) (fun _ _ => rfl)) (pa_cons (pv 5) pa_nil))) pa_nil))))))))
      (pss_one (ps_ret (pe_callTy call_tuple_of (by rfl) T.z_tuple (by decide +kernel) (pa_cons (pv 2) pa_nil))))))
theorem b_lowest_lacking (T : Tx K mg) : Binds K T.fd_lowest_lacking ["shape", "answers"] [] := T.F_lowest_lacking.bindsN fun _ _ _ _ _ _ us hl => match us, hl with | [_, _], _ => rfl
theorem ok_lowest_lacking (T : Tx K mg) : FnOk P w K mg base CX0 1 (He.fAd K ("lowest_lacking", none)) T.fd_lowest_lacking ["shape", "answers"] (sp_lowest_lacking K) := by
  refine T.F_lowest_lacking.ok sc_lowest_lacking (fun vs H Q E h => len_lowest_lacking h) (fun cdv A outer s H vs Q E hr h => ⟨t_lowest_lacking K, PSs.nox ?_, pure_lowest_lacking h⟩)
  exact (pss_cons (ps_setDc (i := 2) (own := [("version", 3), ("truth", 4)]) (g := (gTup K 2 (gCons (gName 3) (gCons (gName 4) gNil)))) (tt := (tNot (tB (tVar 4)))) (tk := (tVar 3)) (tv := (tVar 3)) rfl sc_lowest_lacking.nd rfl rfl (sw_dict rfl rfl rfl (by decide +kernel)) (pi_tup (pv 1)) (blkOk_by (own := [("version", 3), ("truth", 4)]) (N := N_lowest_lacking) (sc := defScope s_lowest_lacking) (by decide +kernel)) (fun _ _ _ _ _ => (pg_tup rfl (pgs_cons (pg_name (i := 3) sc_lowest_lacking.nd rfl (Or.inl rfl)) (pgs_cons (pg_name (i := 4) sc_lowest_lacking.nd rfl (Or.inl rfl)) pgs_nil)))) (fun _ _ _ _ _ => (pts_one (pt_not (pt_val (pv 4))))) (fun _ _ _ _ _ => (pv 3)) (fun _ _ _ _ _ => (pv 3)))
      (pss_cons (ps_for PassesOwn.never rfl (pi_tup (pe_ix ix_seq (pv 0) pe_int (fun _ _ => rfl))) (pg_tup rfl (pgs_cons (pg_name (i := 5) sc_lowest_lacking.nd rfl (Or.inl rfl)) (pgs_cons (pg_name (i := 6) sc_lowest_lacking.nd rfl (Or.inl rfl)) pgs_nil))) (pss_one (ps_if (pt_cmp (pc_din (hu_of hr) (pv 6) (pv 2))) (pss_one (ps_dput (hu_of hr) (pv 2) (pv 5) (pe_callB (call_min2 rfl) (by rfl) T.z_min (by decide +kernel) (pa_cons (pe_dget (hu_of hr) (pv 2) (pv 6) (fun _ _ => rfl)) (pa_cons (pe_dget2 (hu_of hr) (pv 2) (pv 5) (pv 5) ⟨rfl, rfl, rfl, rfl⟩) pa_nil))) rfl)) pss_nil)))
      (pss_one (ps_ret (pv 2)))))
theorem b_refuse_contrary (T : Tx K mg) : Binds K T.fd_refuse_contrary ["yes", "lacking"] [] := T.F_refuse_contrary.bindsN fun _ _ _ _ _ _ us hl => match us, hl with | [_, _], _ => rfl
theorem ok_refuse_contrary (T : Tx K mg) : FnOk P w K mg base (L2.CX P w) 3 (He.fAd K ("refuse_contrary", none)) T.fd_refuse_contrary ["yes", "lacking"] (sp_refuseX K) := by
  refine T.F_refuse_contrary.ok (CX := L2.CX P w) sc_refuse_contrary (fun vs H Q E h => len_refuseX h) (fun cdv A outer s H vs Q E hr h => ⟨t_refuseX K E, ?_, pure_refuseX h⟩)
  exact (pss_one (ps_for (passes_of rfl) rfl (pi_list (pe_callB cr_sortedI (by rfl) T.z_sorted (by decide +kernel) (pa_cons (pv 0) pa_nil))) (pg_name (i := 2) sc_refuse_contrary.nd rfl (Or.inl rfl)) (pss_one (ps_if (pt_cmp (pc_din (hu_of hr) (pv 2) (pv 1))) (pss_one (ps_raise rfl (takes_of rfl rfl rfl rfl) (pmk_oex T.oex_Contrary T.ini_Contrary T.tin_Contrary (ok_Contrary_init T) (hr.mono (by decide)) (b_Contrary_init T) .nil pass0 (by rfl) T.gc_Contrary (pa_cons (pv 2) (pa_cons (pe_dget (hu_of hr) (pv 1) (pv 2) (fun _ _ => rfl)) pa_nil))))) pss_nil))))
theorem b_with_lower (T : Tx K mg) : Binds K T.fd_with_lower ["shape", "starts"] [] := T.F_with_lower.bindsN fun _ _ _ _ _ _ us hl => match us, hl with | [_, _], _ => rfl
theorem ok_with_lower (T : Tx K mg) : FnOk P w K mg base CX0 1 (He.fAd K ("with_lower", none)) T.fd_with_lower ["shape", "starts"] (sp_with_lower K) := by
  refine T.F_with_lower.ok sc_with_lower (fun vs H Q E h => len_with_lower h) (fun cdv A outer s H vs Q E hr h => ⟨t_with_lower K, PSs.nox ?_, pure_with_lower h⟩)
  exact (pss_cons (ps_setDc (i := 2) (own := [("version", 3)]) (g := (gName 3)) (tt := tYes) (tk := (tVar 3)) (tv := (tC (.bl true))) rfl sc_with_lower.nd rfl rfl (sw_dict rfl rfl rfl (by decide +kernel)) (pi_list (pv 1)) (blkOk_by (own := [("version", 3)]) (N := N_with_lower) (sc := defScope s_with_lower) (by decide +kernel)) (fun _ _ _ _ _ => (pg_name (i := 3) sc_with_lower.nd rfl (Or.inl rfl))) (fun _ _ _ _ _ => pts_nil) (fun _ _ _ _ _ => (pv 3)) (fun _ _ _ _ _ => pe_bl))
      (pss_cons (ps_for PassesOwn.never rfl (pi_revA (by rfl) T.z_reversed (pe_ix ix_seq (pv 0) pe_int (fun _ _ => rfl))) (pg_tup rfl (pgs_cons (pg_name (i := 4) sc_with_lower.nd rfl (Or.inl rfl)) (pgs_cons (pg_name (i := 5) sc_with_lower.nd rfl (Or.inl rfl)) pgs_nil))) (pss_one (ps_if (pt_cmp (pc_din (hu_of hr) (pv 4) (pv 2))) (pss_one (ps_dput (hu_of hr) (pv 2) (pv 5) pe_bl rfl)) pss_nil)))
      (pss_one (ps_ret (pv 2)))))
theorem b_settled (T : Tx K mg) : Binds K T.fd_settled ["shape", "answers"] [] := T.F_settled.bindsN fun _ _ _ _ _ _ us hl => match us, hl with | [_, _], _ => rfl
theorem ok_settled (T : Tx K mg) : FnOk P w K mg base (L2.CX P w) 4 (He.fAd K ("settled", none)) T.fd_settled ["shape", "answers"] (sp_settledX K) := by
  refine T.F_settled.ok (CX := L2.CX P w) sc_settled (fun vs H Q E h => len_settledX h) (fun cdv A outer s H vs Q E hr h => ⟨t_settledX K E, ?_, pure_settledX h⟩)
  exact (pss_cons (ps_set (i := 2) sc_settled.nd rfl (Or.inr rfl) (pe_call (ok_lowest_lacking T) (hr.mono (by decide)) (by rfl) T.g_lowest_lacking T.F_lowest_lacking.kp (b_lowest_lacking T) .nil pass0 (pa_cons (pv 0) (pa_cons (pv 1) pa_nil))))
      (pss_cons (ps_setLc (i := 3) (own := [("version", 4), ("truth", 5)]) (g := (gTup K 2 (gCons (gName 4) (gCons (gName 5) gNil)))) (tt := (tB (tVar 5))) (te := (tVar 4)) rfl sc_settled.nd rfl rfl (sw_true rfl rfl rfl (by decide +kernel)) (pi_tup (pv 1)) (blkOk_by (own := [("version", 4), ("truth", 5)]) (N := N_settled) (sc := defScope s_settled) (by decide +kernel)) (fun _ _ _ _ _ => (pg_tup rfl (pgs_cons (pg_name (i := 4) sc_settled.nd rfl (Or.inl rfl)) (pgs_cons (pg_name (i := 5) sc_settled.nd rfl (Or.inl rfl)) pgs_nil)))) (fun _ _ _ _ _ => (pts_one (pt_val (pv 5)))) (fun _ _ _ _ _ => (pv 4)))
      (pss_cons (ps_expr (pe_callS (ok_refuse_contrary T) (hr.mono (by decide)) (by rfl) T.g_refuse_contrary T.F_refuse_contrary.kp (b_refuse_contrary T) (fun σ => passAt (W := fun cls d _ H' => E cls d H') (takes_of rfl rfl rfl rfl) σ) (pa_cons (pv 3) (pa_cons (pv 2) pa_nil))))
      (pss_cons (ps_set (i := 6) sc_settled.nd rfl (Or.inr rfl) (pe_call (ok_with_lower T) (hr.mono (by decide)) (by rfl) T.g_with_lower T.F_with_lower.kp (b_with_lower T) .nil pass0 (pa_cons (pv 0) (pa_cons (pv 3) pa_nil))))
      (pss_cons (ps_setLc (i := 7) (own := [("version", 4)]) (g := (gName 4)) (tt := (tB (tDIn (tVar 4) (tVar 6)))) (te := (tVar 4)) rfl sc_settled.nd rfl rfl (sw_true rfl rfl rfl (by decide +kernel)) (pi_tup (pe_ix ix_seq (pv 0) pe_int (fun _ _ => rfl))) (blkOk_by (own := [("version", 4)]) (N := N_settled) (sc := defScope s_settled) (by decide +kernel)) (fun _ _ _ _ _ => (pg_name (i := 4) sc_settled.nd rfl (Or.inl rfl))) (fun _ _ _ _ _ => (pts_one (pt_cmp (pc_din (hu_of hr) (pv 4) (pv 6))))) (fun _ _ _ _ _ => (pv 4)))
      (pss_cons (ps_setLc (i := 8) (own := [("version", 4)]) (g := (gName 4)) (tt := (tB (tDIn (tVar 4) (tVar 2)))) (te := (tVar 4)) rfl sc_settled.nd rfl rfl (sw_true rfl rfl rfl (by decide +kernel)) (pi_tup (pe_ix ix_seq (pv 0) pe_int (fun _ _ => rfl))) (blkOk_by (own := [("version", 4)]) (N := N_settled) (sc := defScope s_settled) (by decide +kernel)) (fun _ _ _ _ _ => (pg_name (i := 4) sc_settled.nd rfl (Or.inl rfl))) (fun _ _ _ _ _ => (pts_one (pt_cmp (pc_din (hu_of hr) (pv 4) (pv 2))))) (fun _ _ _ _ _ => (pv 4)))
      (pss_cons (ps_setLc (i := 9) (own := [("version", 4)]) (g := (gName 4)) (tt := (tAnd (tB (tDNotIn (tVar 4) (tVar 6))) (tB (tDNotIn (tVar 4) (tVar 2))))) (te := (tVar 4)) rfl sc_settled.nd rfl rfl (sw_true rfl rfl rfl (by decide +kernel)) (pi_tup (pe_ix ix_seq (pv 0) pe_int (fun _ _ => rfl))) (blkOk_by (own := [("version", 4)]) (N := N_settled) (sc := defScope s_settled) (by decide +kernel)) (fun _ _ _ _ _ => (pg_name (i := 4) sc_settled.nd rfl (Or.inl rfl))) (fun _ _ _ _ _ => (pts_one (PW.pt (pw_and (pt_cmp (pc_dnotin (hu_of hr) (pv 4) (pv 6))) (pw_and1 (pt_cmp (pc_dnotin (hu_of hr) (pv 4) (pv 2)))))))) (fun _ _ _ _ _ => (pv 4)))
      (pss_one (ps_ret (pe_tup (pa_cons (pe_callTy call_tuple_of (by rfl) T.z_tuple (by decide +kernel) (pa_cons (pv 7) pa_nil)) (pa_cons (pe_callTy call_tuple_of (by rfl) T.z_tuple (by decide +kernel) (pa_cons (pv 8) pa_nil)) (pa_cons (pe_callTy call_tuple_of (by rfl) T.z_tuple (by decide +kernel) (pa_cons (pv 9) pa_nil)) pa_nil)))))))))))))
theorem b_steps_up (T : Tx K mg) : Binds K T.fd_steps_up ["shape", "answers"] [] := T.F_steps_up.bindsN fun _ _ _ _ _ _ us hl => match us, hl with | [_, _], _ => rfl
theorem ok_steps_up (T : Tx K mg) : FnOk P w K mg base CX0 1 (He.fAd K ("steps_up", none)) T.fd_steps_up ["shape", "answers"] (sp_steps_up K) := by
  refine T.F_steps_up.ok sc_steps_up (fun vs H Q E h => len_steps_up h) (fun cdv A outer s H vs Q E hr h => ⟨t_steps_up K, PSs.nox ?_, pure_steps_up h⟩)
  exact (pss_cons (ps_setDc (i := 2) (own := [("version", 3), ("truth", 4)]) (g := (gTup K 2 (gCons (gName 3) (gCons (gName 4) gNil)))) (tt := (tB (tVar 4))) (tk := (tVar 3)) (tv := (tC .non)) rfl sc_steps_up.nd rfl rfl (sw_dict rfl rfl rfl (by decide +kernel)) (pi_tup (pv 1)) (blkOk_by (own := [("version", 3), ("truth", 4)]) (N := N_steps_up) (sc := defScope s_steps_up) (by decide +kernel)) (fun _ _ _ _ _ => (pg_tup rfl (pgs_cons (pg_name (i := 3) sc_steps_up.nd rfl (Or.inl rfl)) (pgs_cons (pg_name (i := 4) sc_steps_up.nd rfl (Or.inl rfl)) pgs_nil)))) (fun _ _ _ _ _ => (pts_one (pt_val (pv 4)))) (fun _ _ _ _ _ => (pv 3)) (fun _ _ _ _ _ => pe_non))
      (pss_cons (ps_for PassesOwn.never rfl (pi_revA (by rfl) T.z_reversed (pe_ix ix_seq (pv 0) pe_int (fun _ _ => rfl))) (pg_tup rfl (pgs_cons (pg_name (i := 5) sc_steps_up.nd rfl (Or.inl rfl)) (pgs_cons (pg_name (i := 6) sc_steps_up.nd rfl (Or.inl rfl)) pgs_nil))) (pss_one (ps_if (pt_cmp (pc_din (hu_of hr) (pv 5) (pv 2))) (pss_one (ps_expr (pe_dsetd (pv 2) (pv 6) (pv 5) ⟨rfl, rfl, rfl, rfl⟩))) pss_nil)))
      (pss_one (ps_ret (pv 2)))))
theorem b_steps_down (T : Tx K mg) : Binds K T.fd_steps_down ["shape", "answers"] [] := T.F_steps_down.bindsN fun _ _ _ _ _ _ us hl => match us, hl with | [_, _], _ => rfl
theorem ok_steps_down (T : Tx K mg) : FnOk P w K mg base CX0 1 (He.fAd K ("steps_down", none)) T.fd_steps_down ["shape", "answers"] (sp_steps_down K) := by
  refine T.F_steps_down.ok sc_steps_down (fun vs H Q E h => len_steps_down h) (fun cdv A outer s H vs Q E hr h => ⟨t_steps_down K, PSs.nox ?_, pure_steps_down h⟩)
  exact (pss_cons (ps_setDc (i := 2) (own := [("version", 3), ("truth", 4)]) (g := (gTup K 2 (gCons (gName 3) (gCons (gName 4) gNil)))) (tt := (tNot (tB (tVar 4)))) (tk := (tVar 3)) (tv := (tC .non)) rfl sc_steps_down.nd rfl rfl (sw_dict rfl rfl rfl (by decide +kernel)) (pi_tup (pv 1)) (blkOk_by (own := [("version", 3), ("truth", 4)]) (N := N_steps_down) (sc := defScope s_steps_down) (by decide +kernel)) (fun _ _ _ _ _ => (pg_tup rfl (pgs_cons (pg_name (i := 3) sc_steps_down.nd rfl (Or.inl rfl)) (pgs_cons (pg_name (i := 4) sc_steps_down.nd rfl (Or.inl rfl)) pgs_nil)))) (fun _ _ _ _ _ => (pts_one (pt_not (pt_val (pv 4))))) (fun _ _ _ _ _ => (pv 3)) (fun _ _ _ _ _ => pe_non))
      (pss_cons (ps_for PassesOwn.never rfl (pi_tup (pe_ix ix_seq (pv 0) pe_int (fun _ _ => rfl))) (pg_tup rfl (pgs_cons (pg_name (i := 5) sc_steps_down.nd rfl (Or.inl rfl)) (pgs_cons (pg_name (i := 6) sc_steps_down.nd rfl (Or.inl rfl)) pgs_nil))) (pss_one (ps_if (pt_cmp (pc_din (hu_of hr) (pv 6) (pv 2))) (pss_one (ps_expr (pe_dsetd (pv 2) (pv 5) (pv 6) ⟨rfl, rfl, rfl, rfl⟩))) pss_nil)))
      (pss_one (ps_ret (pv 2)))))
theorem b_followed (T : Tx K mg) : Binds K T.fd_followed ["steps", "version"] [] := T.F_followed.bindsN fun _ _ _ _ _ _ us hl => match us, hl with | [_, _], _ => rfl
theorem ok_followed (T : Tx K mg) : FnOk P w K mg base CX0 1 (He.fAd K ("followed", none)) T.fd_followed ["steps", "version"] (sp_followed K) := by
  refine T.F_followed.ok sc_followed (fun vs H Q E h => len_followed h) (fun cdv A outer s H vs Q E hr h => ⟨t_followed K, PSs.nox ?_, pure_followed h⟩)
  exact (pss_cons (ps_set (i := 2) sc_followed.nd rfl (Or.inl rfl) (pe_lst (pa_cons (pv 1) pa_nil)))
      (pss_cons (ps_while PassesOwn.never (pt_cmpR op_notN (pe_dget (hu_of hr) (pv 0) (pe_ix ix_seq (pv 2) (pe_un un_neg pe_int) (fun _ _ => rfl)) (fun _ _ => rfl)) pe_non (nomark _)) (pss_one (ps_expr (pe_bm PySem.F.plainAttrs_list PySem.F.slot_list_append PySem.F.type_list_append mt_append (pv 2) (pa_cons (pe_dget (hu_of hr) (pv 0) (pe_ix ix_seq (pv 2) (pe_un un_neg pe_int) (fun _ _ => rfl)) (fun _ _ => rfl)) pa_nil)))))
      (pss_one (ps_ret (pv 2)))))
theorem b_paper (T : Tx K mg) : Binds K T.fd_paper ["shape", "answers"] [] := T.F_paper.bindsN fun _ _ _ _ _ _ us hl => match us, hl with | [_, _], _ => rfl
theorem ok_paper (T : Tx K mg) : FnOk P w K mg base (L2.CX P w) 5 (He.fAd K ("paper", none)) T.fd_paper ["shape", "answers"] (sp_paper K) := by
  refine T.F_paper.ok (CX := L2.CX P w) sc_paper (fun vs H Q E h => len_paper h) (fun cdv A outer s H vs Q E hr h => ⟨t_paper K E, ?_, pure_paper h⟩)
  exact (pss_cons (ps_asg (pe_callS (ok_settled T) (hr.mono (by decide)) (by rfl) T.g_settled T.F_settled.kp (b_settled T) (fun σ => passAt (W := fun cls d _ H' => E cls d H') (takes_of rfl rfl rfl rfl) σ) (pa_cons (pv 0) (pa_cons (pv 1) pa_nil))) (pg_tup rfl (pgs_cons (pg_name (i := 2) sc_paper.nd rfl (Or.inl rfl)) (pgs_cons (pg_name (i := 3) sc_paper.nd rfl (Or.inl rfl)) (pgs_cons (pg_name (i := 4) sc_paper.nd rfl (Or.inl rfl)) pgs_nil)))))
      (pss_cons (ps_if (pt_truth (pv 4) (by intro _; rfl)) (pss_one (ps_raise rfl (takes_of rfl rfl rfl rfl) (pmk_oex T.oex_Unsettled T.ini_Unsettled T.tin_Unsettled (ok_Unsettled_init T) (hr.mono (by decide)) (b_Unsettled_init T) .nil pass0 (by rfl) T.gc_Unsettled (pa_cons (pe_ix ix_seq (pv 4) pe_int (fun _ _ => rfl)) pa_nil)))) pss_nil)
      (pss_cons (ps_set (i := 5) sc_paper.nd rfl (Or.inr rfl) (pe_call (ok_steps_up T) (hr.mono (by decide)) (by rfl) T.g_steps_up T.F_steps_up.kp (b_steps_up T) .nil pass0 (pa_cons (pv 0) (pa_cons (pv 1) pa_nil))))
      (pss_cons (ps_set (i := 6) sc_paper.nd rfl (Or.inr rfl) (pe_call (ok_steps_down T) (hr.mono (by decide)) (by rfl) T.g_steps_down T.F_steps_down.kp (b_steps_down T) .nil pass0 (pa_cons (pv 0) (pa_cons (pv 1) pa_nil))))
      (pss_cons (ps_set (i := 7) sc_paper.nd rfl (Or.inr rfl) (pe_dc (own := [("version", 8)]) (g := (gName 8)) (tt := tYes) (tk := (tVar 8)) (tv := (tTup (tCons (tC (.str "held")) (tCons (tCB (fTupleOf K) (tCons (tRevL K (tCall (sp_followed K) [] E0 (tCons (tVar 5) (tCons (tVar 8) tNil)))) tNil)) tNil)))) rfl sc_paper.nd (pi_tup (pv 2)) (blkOk_by (own := [("version", 8)]) (N := N_paper) (sc := defScope s_paper) (by decide +kernel)) (fun _ _ _ _ _ => (pg_name (i := 8) sc_paper.nd rfl (Or.inl rfl))) (fun _ _ _ _ _ => pts_nil) (fun _ _ _ _ _ => (pv 8)) (fun _ _ _ _ _ => (pe_tup (pa_cons pe_str (pa_cons (pe_callTy call_tuple_of (by rfl) T.z_tuple (by decide +kernel) (pa_cons (pe_revL (pe_call (ok_followed T) (hr.mono (by decide)) (by rfl) T.g_followed T.F_followed.kp (b_followed T) .nil pass0 (pa_cons (pv 5) (pa_cons (pv 8) pa_nil)))) pa_nil)) pa_nil))))))
      (pss_cons (ps_expr (pe_bm PySem.F.plainAttrs_dict PySem.F.slot_dict_update PySem.F.type_dict_update mt_update (pv 7) (pa_cons (pe_dc (own := [("version", 8)]) (g := (gName 8)) (tt := tYes) (tk := (tVar 8)) (tv := (tTup (tCons (tC (.str "lacks")) (tCons (tCB (fTupleOf K) (tCons (tCall (sp_followed K) [] E0 (tCons (tVar 6) (tCons (tVar 8) tNil))) tNil)) tNil)))) rfl sc_paper.nd (pi_tup (pv 3)) (blkOk_by (own := [("version", 8)]) (N := N_paper) (sc := defScope s_paper) (by decide +kernel)) (fun _ _ _ _ _ => (pg_name (i := 8) sc_paper.nd rfl (Or.inl rfl))) (fun _ _ _ _ _ => pts_nil) (fun _ _ _ _ _ => (pv 8)) (fun _ _ _ _ _ => (pe_tup (pa_cons pe_str (pa_cons (pe_callTy call_tuple_of (by rfl) T.z_tuple (by decide +kernel) (pa_cons (pe_call (ok_followed T) (hr.mono (by decide)) (by rfl) T.g_followed T.F_followed.kp (b_followed T) .nil pass0 (pa_cons (pv 6) (pa_cons (pv 8) pa_nil))) pa_nil)) pa_nil))))) pa_nil)))
      (pss_one (ps_ret (pe_callTy call_tuple_of (by rfl) T.z_tuple (by decide +kernel) (pa_cons (pe_lc (own := [("version", 8)]) (g := (gName 8)) (tt := tYes) (te := (tDGet (tVar 7) (tVar 8))) rfl sc_paper.nd (pi_tup (pe_ix ix_seq (pv 0) pe_int (fun _ _ => rfl))) (blkOk_by (own := [("version", 8)]) (N := N_paper) (sc := defScope s_paper) (by decide +kernel)) (fun _ _ _ _ _ => (pg_name (i := 8) sc_paper.nd rfl (Or.inl rfl))) (fun _ _ _ _ _ => pts_nil) (fun _ _ _ _ _ => (pe_dget (hu_of hr) (pv 7) (pv 8) (fun _ _ => rfl)))) pa_nil))))))))))
theorem b_l_odd (T : Tx K mg) : Binds K T.fd_l_odd ["_law_deck_here"] [] := T.F_l_odd.bindsN fun _ _ _ _ _ _ us hl => match us, hl with | [_], _ => rfl
theorem ok_l_odd (T : Tx K mg) : FnOk P w K mg base CX0 3 (He.fAd K ("_law_odd", none)) T.fd_l_odd ["_law_deck_here"] (sp_l_odd K) := by
  refine T.F_l_odd.ok sc_l_odd (fun vs H Q E h => len_l_odd h) (fun cdv A outer s H vs Q E hr h => ⟨t_l_odd K, PSs.nox ?_, pure_l_odd h⟩)
  exact (pss_cons (ps_set (i := 1) sc_l_odd.nd rfl (Or.inl rfl) (pe_lst (pa_cons pe_non (pa_cons pe_bl (pa_cons pe_bl (pa_cons (pe_un un_neg pe_int) (pa_cons pe_int (pa_cons pe_int (pa_cons (pe_op op_pow pe_int pe_int) (pa_cons pe_str (pa_cons pe_str (pa_cons pe_str (pa_cons pe_str (pa_cons (pe_tup pa_nil) (pa_cons (pe_lst pa_nil) (pa_cons pe_dnewK (pa_cons (pe_tup (pa_cons pe_int pa_nil)) (pa_cons (pe_tup (pa_cons pe_int (pa_cons pe_int pa_nil))) (pa_cons (pe_lst (pa_cons pe_int pa_nil)) (pa_cons (pe_tup (pa_cons (pe_tup pa_nil) pa_nil)) pa_nil))))))))))))))))))))
      (pss_cons (ps_set (i := 1) sc_l_odd.nd rfl (Or.inl rfl) (pe_op op_cat (pv 1) (pe_lst (pa_cons (pe_tup (pa_cons (pe_tup pa_nil) (pa_cons (pe_tup pa_nil) pa_nil))) (pa_cons (pe_tup (pa_cons (pe_tup (pa_cons pe_int (pa_cons pe_int pa_nil))) (pa_cons (pe_tup (pa_cons (pe_tup (pa_cons pe_int (pa_cons pe_int pa_nil))) pa_nil)) pa_nil))) (pa_cons (pe_tup (pa_cons (pe_tup (pa_cons pe_int pa_nil)) (pa_cons (pe_tup (pa_cons pe_int pa_nil)) pa_nil))) (pa_cons (pe_disp (pps_cons pe_int pe_int pps_nil) (by rfl) (by rfl) (fun z => by cases z) (by decide)) (pa_cons (pe_tup (pa_cons (pe_tup (pa_cons pe_int (pa_cons (pe_tup (pa_cons pe_int pa_nil)) pa_nil))) pa_nil)) (pa_cons (pe_tup (pa_cons (pe_tup (pa_cons (pe_tup (pa_cons (pe_tup (pa_cons (pe_tup (pa_cons (pe_tup (pa_cons (pe_tup (pa_cons (pe_tup (pa_cons (pe_tup (pa_cons (pe_tup (pa_cons pe_int pa_nil)) pa_nil)) pa_nil)) pa_nil)) pa_nil)) pa_nil)) pa_nil)) pa_nil)) pa_nil)) pa_nil)) pa_nil)))))))))
      (pss_one (ps_ret (pe_ix ix_seq (pv 1) (pe_call (ok_l_draw T) (hr.mono (by decide)) (by rfl) T.g_l_draw T.F_l_draw.kp (b_l_draw T) .nil pass0 (pa_cons (pv 0) (pa_cons (pe_callB call_len (by rfl) T.z_len PySem.boot_len (pa_cons (pv 1) pa_nil)) pa_nil))) (fun _ _ => rfl))))))
theorem b_l_int (T : Tx K mg) : Binds K T.fd_l_int ["_law_thing"] [] := T.F_l_int.bindsN fun _ _ _ _ _ _ us hl => match us, hl with | [_], _ => rfl
theorem ok_l_int (T : Tx K mg) : FnOk P w K mg base CX0 1 (He.fAd K ("_law_int", none)) T.fd_l_int ["_law_thing"] (sp_l_intA K) := by
  refine T.F_l_int.ok sc_l_int (fun vs H Q E h => len_l_intA h) (fun cdv A outer s H vs Q E hr h => ⟨t_l_int K, PSs.nox ?_, pure_l_intA h⟩)
  exact (pss_one (ps_ret (pe_and (pe_callB call_isi (by rfl) T.z_isinstance (by decide +kernel) (pa_cons (pv 0) (pa_cons (pe_bltn (v := .ty "int") (by rfl) T.z_int (by decide +kernel) rfl) pa_nil))) (pe_one (pe_not (pe_callB call_isi (by rfl) T.z_isinstance (by decide +kernel) (pa_cons (pv 0) (pa_cons (pe_bltn (v := .ty "bool") (by rfl) T.z_bool (by decide +kernel) rfl) pa_nil))))))))
theorem b_l_bent (T : Tx K mg) : Binds K T.fd_l_bent ["_law_deck_here", "_law_thing", "_law_depth"] [] := T.F_l_bent.bindsN fun _ _ _ _ _ _ us hl => match us, hl with | [_, _, _], _ => rfl
theorem ok_bentN (T : Tx K mg) : ∀ n : Nat, FnOk P w K mg base CX0 (n + 4) (He.fAd K ("_law_bent", none)) T.fd_l_bent ["_law_deck_here", "_law_thing", "_law_depth"] (sp_bentN K n)
  | 0 => T.F_l_bent.ok sc_l_bent (fun vs H Q E h => len_bentN h) (fun cdv A outer s H vs Q E hr h => by
      obtain ⟨_, _, _, _, _, _, _, h, _⟩ := h
      exact (Nat.lt_irrefl 0 h).elim)
  | n + 1 => by
    have G : FnOk P w K mg base CX0 (n + 4) (He.fAd K ("_law_bent", none)) T.fd_l_bent ["_law_deck_here", "_law_thing", "_law_depth"] (sp_bentN K n) := ok_bentN T n
    refine T.F_l_bent.ok sc_l_bent (fun vs H Q E h => len_bentN h) (fun cdv A outer s H vs Q E hr h => ⟨t_l_bent K n, PSs.nox ?_, pure_l_bent h⟩)
    exact (pss_cons (ps_set (i := 3) sc_l_bent.nd rfl (Or.inl rfl) (pe_call (ok_l_draw T) (hr.mono (by omega)) (by rfl) T.g_l_draw T.F_l_draw.kp (b_l_draw T) .nil pass0 (pa_cons (pv 0) (pa_cons pe_int pa_nil))))
      (pss_cons (ps_if (PW.pt (pw_or (pt_cmpR op_eq (pv 2) pe_int (nomark _)) (pw_or (pt_cmpR op_eq (pv 3) pe_int (nomark _)) (pw_or1 (pt_not (pt_val (pe_callB call_isi (by rfl) T.z_isinstance (by decide +kernel) (pa_cons (pv 1) (pa_cons (pe_bltn (v := .ty "tuple") (by rfl) T.z_tuple (by decide +kernel) rfl) pa_nil))))))))) (pss_cons (ps_if (PW.pt (pw_and (pt_val (pe_call (ok_l_int T) (hr.mono (by omega)) (by rfl) T.g_l_int T.F_l_int.kp (b_l_int T) .nil pass0 (pa_cons (pv 1) pa_nil))) (pw_and1 (pt_cmpR op_gt (pv 3) pe_int (nomark _))))) (pss_one (ps_ret (pe_op op_add (pv 1) (pe_ix ix_seq (pe_lst (pa_cons (pe_un un_neg pe_int) (pa_cons pe_int (pa_cons pe_int (pa_cons (pe_un un_neg pe_int) (pa_cons (pe_op op_sub (pe_un un_neg (pv 1)) pe_int) pa_nil)))))) (pe_call (ok_l_draw T) (hr.mono (by omega)) (by rfl) T.g_l_draw T.F_l_draw.kp (b_l_draw T) .nil pass0 (pa_cons (pv 0) (pa_cons pe_int pa_nil))) (fun _ _ => rfl))))) pss_nil)
      (pss_one (ps_ret (pe_call (ok_l_odd T) (hr.mono (by omega)) (by rfl) T.g_l_odd T.F_l_odd.kp (b_l_odd T) .nil pass0 (pa_cons (pv 0) pa_nil))))) pss_nil)
      (pss_cons (ps_if (pt_cmpR op_eq (pv 3) pe_int (nomark _)) (pss_one (ps_ret (pe_callTy call_list_of (by rfl) T.z_list (by decide +kernel) (pa_cons (pv 1) pa_nil)))) pss_nil)
      (pss_cons (ps_if (pt_cmpR op_eq (pe_callB call_len (by rfl) T.z_len PySem.boot_len (pa_cons (pv 1) pa_nil)) pe_int (nomark _)) (pss_one (ps_ret (pe_tup (pa_cons (pe_call (ok_l_odd T) (hr.mono (by omega)) (by rfl) T.g_l_odd T.F_l_odd.kp (b_l_odd T) .nil pass0 (pa_cons (pv 0) pa_nil)) pa_nil)))) pss_nil)
      (pss_cons (ps_set (i := 4) sc_l_bent.nd rfl (Or.inl rfl) (pe_call (ok_l_draw T) (hr.mono (by omega)) (by rfl) T.g_l_draw T.F_l_draw.kp (b_l_draw T) .nil pass0 (pa_cons (pv 0) (pa_cons (pe_callB call_len (by rfl) T.z_len PySem.boot_len (pa_cons (pv 1) pa_nil)) pa_nil))))
      (pss_cons (ps_if (pt_cmpR op_eq (pv 3) pe_int (nomark _)) (pss_one (ps_ret (pe_op op_catA (pe_slice sl_tupA (pv 1) po_none (po_some (pv 4))) (pe_slice sl_tupA (pv 1) (po_some (pe_op op_add (pv 4) pe_int)) po_none)))) pss_nil)
      (pss_cons (ps_if (pt_cmpR op_eq (pv 3) pe_int (nomark _)) (pss_one (ps_ret (pe_op op_catA (pe_slice sl_tupA (pv 1) po_none (po_some (pe_op op_add (pv 4) pe_int))) (pe_slice sl_tupA (pv 1) (po_some (pv 4)) po_none)))) pss_nil)
      (pss_cons (ps_if (pt_cmpR op_eq (pv 3) pe_int (nomark _)) (pss_one (ps_ret (pe_op op_catA (pe_op op_catA (pe_op op_catA (pe_slice sl_tupA (pv 1) po_none (po_some (pv 4))) (pe_slice sl_tupA (pv 1) (po_some (pe_op op_add (pv 4) pe_int)) (po_some (pe_op op_add (pv 4) pe_int)))) (pe_tup (pa_cons (pe_ix ix_seq (pv 1) (pv 4) (fun _ _ => rfl)) pa_nil))) (pe_slice sl_tupA (pv 1) (po_some (pe_op op_add (pv 4) pe_int)) po_none)))) pss_nil)
      (pss_one (ps_ret (pe_op op_catA (pe_op op_catA (pe_slice sl_tupA (pv 1) po_none (po_some (pv 4))) (pe_tup (pa_cons (pe_call G hr (by rfl) T.g_l_bent T.F_l_bent.kp (b_l_bent T) .nil pass0 (pa_cons (pv 0) (pa_cons (pe_ix ix_seq (pv 1) (pv 4) (fun _ _ => rfl)) (pa_cons (pe_op op_sub (pv 2) pe_int) pa_nil)))) pa_nil))) (pe_slice sl_tupA (pv 1) (po_some (pe_op op_add (pv 4) pe_int)) po_none))))))))))))
theorem ok_l_bent (T : Tx K mg) : FnOk P w K mg base CX0 8 (He.fAd K ("_law_bent", none)) T.fd_l_bent ["_law_deck_here", "_law_thing", "_law_depth"] (sp_l_bent K) := ok_bentN T 4
theorem b_l_clash (T : Tx K mg) : Binds K T.fd_l_clash ["_law_rows", "_law_answers_here"] [] := T.F_l_clash.bindsN fun _ _ _ _ _ _ us hl => match us, hl with | [_, _], _ => rfl
theorem ok_l_clash (T : Tx K mg) : FnOk P w K mg base CX0 1 (He.fAd K ("_law_clash", none)) T.fd_l_clash ["_law_rows", "_law_answers_here"] (sp_l_clash K) := by
  refine T.F_l_clash.ok sc_l_clash (fun vs H Q E h => len_l_clash h) (fun cdv A outer s H vs Q E hr h => ⟨t_l_clash K, PSs.nox ?_, pure_l_clash h⟩)
  exact (pss_cons (ps_set (i := 2) sc_l_clash.nd rfl (Or.inl rfl) (pe_lst pa_nil))
      (pss_cons (ps_for PassesOwn.never rfl (pi_tup (pv 1)) (pg_name (i := 3) sc_l_clash.nd rfl (Or.inl rfl)) (pss_one (ps_for PassesOwn.never rfl (pi_tup (pv 1)) (pg_name (i := 4) sc_l_clash.nd rfl (Or.inl rfl)) (pss_one (ps_if (PW.pt (pw_and (pt_val (pe_ix ix_seq (pv 3) pe_int (fun _ _ => rfl))) (pw_and (pt_not (pt_val (pe_ix ix_seq (pv 4) pe_int (fun _ _ => rfl)))) (pw_and1 (pt_cmpR op_in_seq (pe_ix ix_seq (pv 4) pe_int (fun _ _ => rfl)) (pe_dget (hu_of hr) (pv 0) (pe_ix ix_seq (pv 3) pe_int (fun _ _ => rfl)) (fun _ _ => rfl)) (by rfl)))))) (pss_one (ps_expr (pe_bm PySem.F.plainAttrs_list PySem.F.slot_list_append PySem.F.type_list_append mt_append (pv 2) (pa_cons (pe_tup (pa_cons (pe_ix ix_seq (pv 3) pe_int (fun _ _ => rfl)) (pa_cons (pe_ix ix_seq (pv 4) pe_int (fun _ _ => rfl)) pa_nil))) pa_nil)))) pss_nil)))))
      (pss_cons (ps_if (pt_cmpR op_eq (pe_callB call_len (by rfl) T.z_len PySem.boot_len (pa_cons (pv 2) pa_nil)) pe_int (nomark _)) (pss_one (ps_ret pe_non)) pss_nil)
      (pss_one (ps_ret (pe_callB (cr_minP rfl hr.units) (by rfl) T.z_min (by decide +kernel) (pa_cons (pv 2) pa_nil)))))))
theorem b_l_is_wayA (T : Tx K mg) : Binds K T.fd_l_is_wayA ["_law_web", "_law_thing"] [] := T.F_l_is_wayA.bindsN fun _ _ _ _ _ _ us hl => match us, hl with | [_, _], _ => rfl
theorem ok_l_is_wayA (T : Tx K mg) : FnOk P w K mg base CX0 2 (He.fAd K ("_law_is_way", none)) T.fd_l_is_wayA ["_law_web", "_law_thing"] (sp_l_is_wayA K) := by
  refine T.F_l_is_wayA.ok sc_l_is_wayA (fun vs H Q E h => len_l_is_wayA h) (fun cdv A outer s H vs Q E hr h => ⟨t_l_is_wayA K, PSs.nox ?_, pure_l_is_wayA h⟩)
  exact (pss_cons (ps_if (PW.pt (pw_or (pt_not (pt_val (pe_callB call_isi (by rfl) T.z_isinstance (by decide +kernel) (pa_cons (pv 1) (pa_cons (pe_bltn (v := .ty "tuple") (by rfl) T.z_tuple (by decide +kernel) rfl) pa_nil))))) (pw_or1 (pt_cmpR op_eq (pe_callB call_len (by rfl) T.z_len PySem.boot_len (pa_cons (pv 1) pa_nil)) pe_int (nomark _))))) (pss_one (ps_ret pe_bl)) pss_nil)
      (pss_cons (ps_for PassesOwn.never rfl (pi_tup (pv 1)) (pg_name (i := 2) sc_l_is_wayA.nd rfl (Or.inl rfl)) (pss_one (ps_if (PW.pt (pw_or (pt_not (pt_val (pe_call (ok_l_int T) (hr.mono (by decide)) (by rfl) T.g_l_int T.F_l_int.kp (b_l_int T) .nil pass0 (pa_cons (pv 2) pa_nil)))) (pw_or1 (pt_cmpR op_notIn_seq (pv 2) (pe_ix ix_seq (pv 0) pe_int (fun _ _ => rfl)) (by rfl))))) (pss_one (ps_ret pe_bl)) pss_nil)))
      (pss_cons (ps_for PassesOwn.never rfl (pi_range2 (by rfl) T.z_range (pa_cons pe_int (pa_cons (pe_callB call_len (by rfl) T.z_len PySem.boot_len (pa_cons (pv 1) pa_nil)) pa_nil))) (pg_name (i := 3) sc_l_is_wayA.nd rfl (Or.inl rfl)) (pss_one (ps_if (pt_cmpR (op_notInT (units65 hr)) (pe_tup (pa_cons (pe_ix ix_seq (pv 1) (pe_op op_sub (pv 3) pe_int) (fun _ _ => rfl)) (pa_cons (pe_ix ix_seq (pv 1) (pv 3) (fun _ _ => rfl)) pa_nil))) (pe_ix ix_seq (pv 0) pe_int (fun _ _ => rfl)) (by rfl)) (pss_one (ps_ret pe_bl)) pss_nil)))
      (pss_one (ps_ret pe_bl)))))
theorem b_l_is_paperA (T : Tx K mg) : Binds K T.fd_l_is_paperA ["_law_web", "_law_answers_here", "_law_thing"] [] := T.F_l_is_paperA.bindsN fun _ _ _ _ _ _ us hl => match us, hl with | [_, _, _], _ => rfl
theorem ok_l_is_paperA (T : Tx K mg) : FnOk P w K mg base CX0 3 (He.fAd K ("_law_is_paper", none)) T.fd_l_is_paperA ["_law_web", "_law_answers_here", "_law_thing"] (sp_l_is_paperA K) := by
  refine T.F_l_is_paperA.ok sc_l_is_paperA (fun vs H Q E h => len_l_is_paperA h) (fun cdv A outer s H vs Q E hr h => ⟨t_l_is_paperA K, PSs.nox ?_, pure_l_is_paperA h⟩)
  exact (pss_cons (ps_if (PW.pt (pw_or (pt_not (pt_val (pe_callB call_isi (by rfl) T.z_isinstance (by decide +kernel) (pa_cons (pv 2) (pa_cons (pe_bltn (v := .ty "tuple") (by rfl) T.z_tuple (by decide +kernel) rfl) pa_nil))))) (pw_or1 (pt_cmpR op_ne (pe_callB call_len (by rfl) T.z_len PySem.boot_len (pa_cons (pv 2) pa_nil)) (pe_callB call_len (by rfl) T.z_len PySem.boot_len (pa_cons (pe_ix ix_seq (pv 0) pe_int (fun _ _ => rfl)) pa_nil)) (nomark _))))) (pss_one (ps_ret pe_bl)) pss_nil)
      (pss_cons (ps_for PassesOwn.never rfl (pi_range1 (by rfl) T.z_range (pa_cons (pe_callB call_len (by rfl) T.z_len PySem.boot_len (pa_cons (pv 2) pa_nil)) pa_nil)) (pg_name (i := 3) sc_l_is_paperA.nd rfl (Or.inl rfl)) (pss_cons (ps_set (i := 4) sc_l_is_paperA.nd rfl (Or.inl rfl) (pe_ix ix_seq (pv 2) (pv 3) (fun _ _ => rfl)))
      (pss_cons (ps_if (PW.pt (pw_or (pt_not (pt_val (pe_callB call_isi (by rfl) T.z_isinstance (by decide +kernel) (pa_cons (pv 4) (pa_cons (pe_bltn (v := .ty "tuple") (by rfl) T.z_tuple (by decide +kernel) rfl) pa_nil))))) (pw_or (pt_cmpR op_ne (pe_callB call_len (by rfl) T.z_len PySem.boot_len (pa_cons (pv 4) pa_nil)) pe_int (nomark _)) (pw_or1 (pt_not (pt_val (pe_callB call_isi (by rfl) T.z_isinstance (by decide +kernel) (pa_cons (pe_ix ix_seq (pv 4) pe_int (fun _ _ => rfl)) (pa_cons (pe_bltn (v := .ty "str") (by rfl) T.z_str (by decide +kernel) rfl) pa_nil))))))))) (pss_one (ps_ret pe_bl)) pss_nil)
      (pss_cons (ps_if (pt_not (pt_val (pe_call (ok_l_is_wayA T) (hr.mono (by decide)) (by rfl) T.g_l_is_wayA T.F_l_is_wayA.kp (b_l_is_wayA T) .nil pass0 (pa_cons (pv 0) (pa_cons (pe_ix ix_seq (pv 4) pe_int (fun _ _ => rfl)) pa_nil))))) (pss_one (ps_ret pe_bl)) pss_nil)
      (pss_cons (ps_set (i := 5) sc_l_is_paperA.nd rfl (Or.inl rfl) pe_bl)
      (pss_cons (ps_for PassesOwn.never rfl (pi_tup (pv 1)) (pg_name (i := 6) sc_l_is_paperA.nd rfl (Or.inl rfl)) (pss_cons (ps_if (PW.pt (pw_and (pt_cmpR op_eq (pe_ix ix_seq (pv 4) pe_int (fun _ _ => rfl)) pe_str (nomark _)) (pw_and (pt_val (pe_ix ix_seq (pv 6) pe_int (fun _ _ => rfl))) (pw_and (pt_cmpR op_eq (pe_ix ix_seq (pe_ix ix_seq (pv 4) pe_int (fun _ _ => rfl)) pe_int (fun _ _ => rfl)) (pe_ix ix_seq (pv 6) pe_int (fun _ _ => rfl)) (nomark _)) (pw_and1 (pt_cmpR op_eq (pe_ix ix_seq (pe_ix ix_seq (pv 4) pe_int (fun _ _ => rfl)) (pe_un un_neg pe_int) (fun _ _ => rfl)) (pe_ix ix_seq (pe_ix ix_seq (pv 0) pe_int (fun _ _ => rfl)) (pv 3) (fun _ _ => rfl)) (nomark _))))))) (pss_one (ps_set (i := 5) sc_l_is_paperA.nd rfl (Or.inl rfl) pe_bl)) pss_nil)
      (pss_one (ps_if (PW.pt (pw_and (pt_cmpR op_eq (pe_ix ix_seq (pv 4) pe_int (fun _ _ => rfl)) pe_str (nomark _)) (pw_and (pt_not (pt_val (pe_ix ix_seq (pv 6) pe_int (fun _ _ => rfl)))) (pw_and (pt_cmpR op_eq (pe_ix ix_seq (pe_ix ix_seq (pv 4) pe_int (fun _ _ => rfl)) (pe_un un_neg pe_int) (fun _ _ => rfl)) (pe_ix ix_seq (pv 6) pe_int (fun _ _ => rfl)) (nomark _)) (pw_and1 (pt_cmpR op_eq (pe_ix ix_seq (pe_ix ix_seq (pv 4) pe_int (fun _ _ => rfl)) pe_int (fun _ _ => rfl)) (pe_ix ix_seq (pe_ix ix_seq (pv 0) pe_int (fun _ _ => rfl)) (pv 3) (fun _ _ => rfl)) (nomark _))))))) (pss_one (ps_set (i := 5) sc_l_is_paperA.nd rfl (Or.inl rfl) pe_bl)) pss_nil))))
      (pss_one (ps_if (pt_not (pt_val (pv 5))) (pss_one (ps_ret pe_bl)) pss_nil))))))))
      (pss_one (ps_ret pe_bl))))
theorem b_l_truth (T : Tx K mg) : Binds K T.fd_l_truth ["_law_found", "_law_due"] [] := T.F_l_truth.bindsN fun _ _ _ _ _ _ us hl => match us, hl with | [_, _], _ => rfl
theorem ok_l_truth (T : Tx K mg) : FnOk P w K mg base CX0 1 (He.fAd K ("_law_truth", none)) T.fd_l_truth ["_law_found", "_law_due"] (sp_l_truth K) := by
  refine T.F_l_truth.ok sc_l_truth (fun vs H Q E h => len_l_truth h) (fun cdv A outer s H vs Q E hr h => ⟨t_l_truth K, PSs.nox ?_, pure_l_truth h⟩)
  exact (pss_one (ps_ret (pe_and (pe_callB call_isi (by rfl) T.z_isinstance (by decide +kernel) (pa_cons (pv 0) (pa_cons (pe_bltn (v := .ty "bool") (by rfl) T.z_bool (by decide +kernel) rfl) pa_nil))) (pe_one (pe_cmpR op_eq (pv 0) (pv 1) (nomark _))))))
theorem b_are_contraryA (T : Tx K mg) : Binds K T.fd_are_contraryA ["shape", "answers"] [] := T.F_are_contraryA.bindsN fun _ _ _ _ _ _ us hl => match us, hl with | [_, _], _ => rfl
theorem ok_are_contraryA (T : Tx K mg) : FnOk P w K mg base CX0 5 (He.fAd K ("are_contrary", none)) T.fd_are_contraryA ["shape", "answers"] (sp_are_contraryA K) := by
  refine T.F_are_contraryA.ok sc_are_contraryA (fun vs H Q E h => len_are_contraryA h) (fun cdv A outer s H vs Q E hr h => ⟨t_are_contraryA K, PSs.nox ?_, pure_are_contraryA h⟩)
  exact (pss_cons (ps_try_only (tb := fun W => (tDrop (tCallS (sp_settledX K) (WE W) (tCons (tVar 0) (tCons (tVar 1) tNil))))) (ts := fun _ _ _ => (tRet (tC (.bl true)))) rfl rfl ⟨rfl, by decide, .inl T.gc_Contrary⟩ takes0 (fun W pn xe tk _ => (pss_one (ps_expr (pe_callS (ok_settled T) (hr.mono (by decide)) (by rfl) T.g_settled T.F_settled.kp (b_settled T) (fun σ => passAt tk σ) (pa_cons (pv 0) (pa_cons (pv 1) pa_nil)))))) (fun a oe cls d pn _ _ => (pss_one (ps_ret pe_bl))))
      (pss_one (ps_ret pe_bl)))
theorem b_is_pair (T : Tx K mg) : Binds K T.fd_is_pair ["thing"] [] := T.F_is_pair.bindsN fun _ _ _ _ _ _ us hl => match us, hl with | [_], _ => rfl
theorem ok_is_pair (T : Tx K mg) : FnOk P w K mg base CX0 1 (He.fAd K ("is_pair", none)) T.fd_is_pair ["thing"] (sp_is_pair K) := by
  refine T.F_is_pair.ok sc_is_pair (fun vs H Q E h => len_is_pair h) (fun cdv A outer s H vs Q E hr h => ⟨t_is_pair K, PSs.nox ?_, pure_is_pair h⟩)
  exact (pss_one (ps_ret (pe_and (pe_callB call_isi (by rfl) T.z_isinstance (by decide +kernel) (pa_cons (pv 0) (pa_cons (pe_bltn (v := .ty "tuple") (by rfl) T.z_tuple (by decide +kernel) rfl) pa_nil))) (pe_one (pe_cmpR op_eq (pe_callB call_len (by rfl) T.z_len PySem.boot_len (pa_cons (pv 0) pa_nil)) pe_int (nomark _))))))
theorem b_is_int (T : Tx K mg) : Binds K T.fd_is_int ["thing"] [] := T.F_is_int.bindsN fun _ _ _ _ _ _ us hl => match us, hl with | [_], _ => rfl
theorem ok_is_int (T : Tx K mg) : FnOk P w K mg base CX0 1 (He.fAd K ("is_int", none)) T.fd_is_int ["thing"] (sp_is_int K) := by
  refine T.F_is_int.ok sc_is_int (fun vs H Q E h => len_is_int h) (fun cdv A outer s H vs Q E hr h => ⟨t_is_int K, PSs.nox ?_, pure_is_int h⟩)
  exact (pss_one (ps_ret (pe_and (pe_callB call_isi (by rfl) T.z_isinstance (by decide +kernel) (pa_cons (pv 0) (pa_cons (pe_bltn (v := .ty "int") (by rfl) T.z_int (by decide +kernel) rfl) pa_nil))) (pe_one (pe_not (pe_callB call_isi (by rfl) T.z_isinstance (by decide +kernel) (pa_cons (pv 0) (pa_cons (pe_bltn (v := .ty "bool") (by rfl) T.z_bool (by decide +kernel) rfl) pa_nil))))))))
theorem b_is_ints (T : Tx K mg) : Binds K T.fd_is_ints ["thing"] [] := T.F_is_ints.bindsN fun _ _ _ _ _ _ us hl => match us, hl with | [_], _ => rfl
theorem ok_is_ints (T : Tx K mg) : FnOk P w K mg base CX0 2 (He.fAd K ("is_ints", none)) T.fd_is_ints ["thing"] (sp_is_intsD K) := by
  refine T.F_is_ints.ok sc_is_ints (fun vs H Q E h => len_is_intsD h) (fun cdv A outer s H vs Q E hr h => ⟨t_is_ints K, PSs.nox ?_, pure_is_intsD h⟩)
  exact (pss_one (ps_ret (pe_and (pe_callB call_isi (by rfl) T.z_isinstance (by decide +kernel) (pa_cons (pv 0) (pa_cons (pe_bltn (v := .ty "tuple") (by rfl) T.z_tuple (by decide +kernel) rfl) pa_nil))) (pe_one (pe_callB (cr_all rfl) (by rfl) T.z_all (by decide +kernel) (pa_cons (pe_lc (own := [("part", 1)]) (g := (gName 1)) (tt := tYes) (te := (tCall (sp_is_int K) [] E0 (tCons (tVar 1) tNil))) rfl sc_is_ints.nd (pi_tup (pv 0)) (blkOk_by (own := [("part", 1)]) (N := N_is_ints) (sc := defScope s_is_ints) (by decide +kernel)) (fun _ _ _ _ _ => (pg_name (i := 1) sc_is_ints.nd rfl (Or.inl rfl))) (fun _ _ _ _ _ => pts_nil) (fun _ _ _ _ _ => (pe_call (ok_is_int T) (hr.mono (by decide)) (by rfl) T.g_is_int T.F_is_int.kp (b_is_int T) .nil pass0 (pa_cons (pv 1) pa_nil)))) pa_nil))))))
theorem b_is_walk_downA (T : Tx K mg) : Binds K T.fd_is_walk_downA ["thing", "links"] [] := T.F_is_walk_downA.bindsN fun _ _ _ _ _ _ us hl => match us, hl with | [_, _], _ => rfl
theorem ok_is_walk_downA (T : Tx K mg) : FnOk P w K mg base CX0 3 (He.fAd K ("is_walk_down", none)) T.fd_is_walk_downA ["thing", "links"] (sp_is_walk_downA K) := by
  refine T.F_is_walk_downA.ok sc_is_walk_downA (fun vs H Q E h => len_is_walk_downA h) (fun cdv A outer s H vs Q E hr h => ⟨t_is_walk_downA K, PSs.nox ?_, pure_is_walk_downA h⟩)
  exact (pss_cons (ps_if (PW.pt (pw_or (pt_not (pt_val (pe_call (ok_is_ints T) (hr.mono (by decide)) (by rfl) T.g_is_ints T.F_is_ints.kp (b_is_ints T) .nil pass0 (pa_cons (pv 0) pa_nil)))) (pw_or1 (pt_cmpR op_eq (pe_callB call_len (by rfl) T.z_len PySem.boot_len (pa_cons (pv 0) pa_nil)) pe_int (nomark _))))) (pss_one (ps_ret pe_bl)) pss_nil)
      (pss_one (ps_ret (pe_callB (cr_all rfl) (by rfl) T.z_all (by decide +kernel) (pa_cons (pe_lc (own := [("upper", 2), ("lower", 3)]) (g := (gTup K 2 (gCons (gName 2) (gCons (gName 3) gNil)))) (tt := tYes) (te := (tDIn (tTup (tCons (tVar 2) (tCons (tVar 3) tNil))) (tVar 1))) rfl sc_is_walk_downA.nd (pi_zipA (by rfl) T.z_zip (pa_cons (pv 0) (pa_cons (pe_slice sl_tupA (pv 0) (po_some pe_int) po_none) pa_nil))) (blkOk_by (own := [("upper", 2), ("lower", 3)]) (N := N_is_walk_downA) (sc := defScope s_is_walk_downA) (by decide +kernel)) (fun _ _ _ _ _ => (pg_tup rfl (pgs_cons (pg_name (i := 2) sc_is_walk_downA.nd rfl (Or.inl rfl)) (pgs_cons (pg_name (i := 3) sc_is_walk_downA.nd rfl (Or.inl rfl)) pgs_nil)))) (fun _ _ _ _ _ => pts_nil) (fun _ _ _ _ _ => (pe_cmp (pc_din (hu_of hr) (pe_tup (pa_cons (pv 2) (pa_cons (pv 3) pa_nil))) (pv 1)) rfl))) pa_nil)))))
theorem b_showsA (T : Tx K mg) : Binds K T.fd_showsA ["thing", "version", "told", "links"] [] := T.F_showsA.bindsN fun _ _ _ _ _ _ us hl => match us, hl with | [_, _, _, _], _ => rfl
theorem ok_showsA (T : Tx K mg) : FnOk P w K mg base CX0 4 (He.fAd K ("shows", none)) T.fd_showsA ["thing", "version", "told", "links"] (sp_showsA K) := by
  refine T.F_showsA.ok sc_showsA (fun vs H Q E h => len_showsA h) (fun cdv A outer s H vs Q E hr h => ⟨t_showsA K, PSs.nox ?_, pure_showsA h⟩)
  exact (pss_cons (ps_if (PW.pt (pw_or (pt_not (pt_val (pe_call (ok_is_pair T) (hr.mono (by decide)) (by rfl) T.g_is_pair T.F_is_pair.kp (b_is_pair T) .nil pass0 (pa_cons (pv 0) pa_nil)))) (pw_or1 (pt_not (pt_val (pe_call (ok_is_walk_downA T) (hr.mono (by decide)) (by rfl) T.g_is_walk_downA T.F_is_walk_downA.kp (b_is_walk_downA T) .nil pass0 (pa_cons (pe_ix ix_seq (pv 0) pe_int (fun _ _ => rfl)) (pa_cons (pv 3) pa_nil)))))))) (pss_one (ps_ret pe_bl)) pss_nil)
      (pss_cons (ps_par (i := 4) (j := 5) (by rfl) sc_showsA.nd rfl rfl (by decide) rfl rfl (pa_cons (pe_ix ix_seq (pe_ix ix_seq (pv 0) pe_int (fun _ _ => rfl)) pe_int (fun _ _ => rfl)) (pa_cons (pe_ix ix_seq (pe_ix ix_seq (pv 0) pe_int (fun _ _ => rfl)) (pe_un un_neg pe_int) (fun _ _ => rfl)) pa_nil)) (by rfl))
      (pss_cons (ps_if (pt_cmpR (op_eqS hr.units) (pe_ix ix_seq (pv 0) pe_int (fun _ _ => rfl)) pe_str (nomark _)) (pss_one (ps_ret (pe_and (pe_cmpR op_isBN (pe_dget1 (hu_of hr) (pv 2) (pv 4) ⟨rfl, rfl, rfl, rfl⟩) pe_bl (nomark _)) (pe_one (pe_cmpR op_eq (pv 5) (pv 1) (nomark _)))))) pss_nil)
      (pss_one (ps_ret (pe_and (pe_cmpR (op_eqS hr.units) (pe_ix ix_seq (pv 0) pe_int (fun _ _ => rfl)) pe_str (nomark _)) (pe_and (pe_cmpR op_eq (pv 4) (pv 1) (nomark _)) (pe_one (pe_cmpR op_isBN (pe_dget1 (hu_of hr) (pv 2) (pv 5) ⟨rfl, rfl, rfl, rfl⟩) pe_bl (nomark _))))))))))
theorem b_right_paperA (T : Tx K mg) : Binds K T.fd_right_paperA ["shape", "answers", "thing"] [] := T.F_right_paperA.bindsN fun _ _ _ _ _ _ us hl => match us, hl with | [_, _, _], _ => rfl
theorem ok_right_paperA (T : Tx K mg) : FnOk P w K mg base CX0 6 (He.fAd K ("right_paper", none)) T.fd_right_paperA ["shape", "answers", "thing"] (sp_right_paperA K) := by
  refine T.F_right_paperA.ok sc_right_paperA (fun vs H Q E h => len_right_paperA h) (fun cdv A outer s H vs Q E hr h => ⟨t_right_paperA K, PSs.nox ?_, pure_right_paperA h⟩)
  exact (pss_cons (ps_if (PW.pt (pw_or (pt_not (pt_val (pe_callB call_isi (by rfl) T.z_isinstance (by decide +kernel) (pa_cons (pv 2) (pa_cons (pe_bltn (v := .ty "tuple") (by rfl) T.z_tuple (by decide +kernel) rfl) pa_nil))))) (pw_or (pt_cmpR op_ne (pe_callB call_len (by rfl) T.z_len PySem.boot_len (pa_cons (pv 2) pa_nil)) (pe_callB call_len (by rfl) T.z_len PySem.boot_len (pa_cons (pe_ix ix_seq (pv 0) pe_int (fun _ _ => rfl)) pa_nil)) (nomark _)) (pw_or1 (pt_val (pe_call (ok_are_contraryA T) (hr.mono (by decide)) (by rfl) T.g_are_contraryA T.F_are_contraryA.kp (b_are_contraryA T) .nil pass0 (pa_cons (pv 0) (pa_cons (pv 1) pa_nil)))))))) (pss_one (ps_ret pe_bl)) pss_nil)
      (pss_cons (ps_set (i := 3) sc_right_paperA.nd rfl (Or.inr rfl) (pe_dc (own := [("version", 4), ("truth", 5)]) (g := (gTup K 2 (gCons (gName 4) (gCons (gName 5) gNil)))) (tt := tYes) (tk := (tVar 4)) (tv := (tVar 5)) rfl sc_right_paperA.nd (pi_tup (pv 1)) (blkOk_by (own := [("version", 4), ("truth", 5)]) (N := N_right_paperA) (sc := defScope s_right_paperA) (by decide +kernel)) (fun _ _ _ _ _ => (pg_tup rfl (pgs_cons (pg_name (i := 4) sc_right_paperA.nd rfl (Or.inl rfl)) (pgs_cons (pg_name (i := 5) sc_right_paperA.nd rfl (Or.inl rfl)) pgs_nil)))) (fun _ _ _ _ _ => pts_nil) (fun _ _ _ _ _ => (pv 4)) (fun _ _ _ _ _ => (pv 5))))
      (pss_cons (ps_set (i := 6) sc_right_paperA.nd rfl (Or.inr rfl) (pe_dcG (own := [("link", 7)]) (g := (gName 7)) (tt := tYes) (tk := (tVar 7)) (tv := (tC (.bl true))) (o0 := .dT []) (Put := putT) rfl sc_right_paperA.nd (pi_tup (pe_ix ix_seq (pv 0) pe_int (fun _ _ => rfl))) (blkOk_by (own := [("link", 7)]) (N := N_right_paperA) (sc := defScope s_right_paperA) (by decide +kernel)) (fun _ _ _ _ _ => (pg_name (i := 7) sc_right_paperA.nd rfl (Or.inl rfl))) (fun _ _ _ _ _ => pts_nil) (fun _ _ _ _ _ => (pv 7)) (fun _ _ _ _ _ => pe_bl) (fun hx hz => dt_empty hx hz) (putT_ok hr.units0)))
      (pss_one (ps_ret (pe_callB (cr_all rfl) (by rfl) T.z_all (by decide +kernel) (pa_cons (pe_lc (own := [("pair", 8), ("version", 4)]) (g := (gTup K 2 (gCons (gName 8) (gCons (gName 4) gNil)))) (tt := tYes) (te := (tCall (sp_showsA K) [] E0 (tCons (tVar 8) (tCons (tVar 4) (tCons (tVar 3) (tCons (tVar 6) tNil)))))) rfl sc_right_paperA.nd (pi_zipA (by rfl) T.z_zip (pa_cons (pv 2) (pa_cons (pe_ix ix_seq (pv 0) pe_int (fun _ _ => rfl)) pa_nil))) (blkOk_by (own := [("pair", 8), ("version", 4)]) (N := N_right_paperA) (sc := defScope s_right_paperA) (by decide +kernel)) (fun _ _ _ _ _ => (pg_tup rfl (pgs_cons (pg_name (i := 8) sc_right_paperA.nd rfl (Or.inl rfl)) (pgs_cons (pg_name (i := 4) sc_right_paperA.nd rfl (Or.inl rfl)) pgs_nil)))) (fun _ _ _ _ _ => pts_nil) (fun _ _ _ _ _ => (pe_call (ok_showsA T) (hr.mono (by decide)) (by rfl) T.g_showsA T.F_showsA.kp (b_showsA T) .nil pass0 (pa_cons (pv 8) (pa_cons (pv 4) (pa_cons (pv 3) (pa_cons (pv 6) pa_nil))))))) pa_nil)))))))
theorem b_law (T : Tx K mg) : Binds K T.fd_law ["_law_script"] [] := T.F_law.bindsN fun _ _ _ _ _ _ us hl => match us, hl with | [_], _ => rfl
theorem ok_law (T : Tx K mg) : FnOk P w K mg base CX0 9 (He.fAd K ("law", none)) T.fd_law ["_law_script"] (sp_law K) := by
  refine T.F_law.ok sc_law (fun vs H Q E h => len_law h) (fun cdv A outer s H vs Q E hr h => ⟨t_law K, PSs.nox ?_, pure_law T.more h⟩)
  exact (pss_cons (ps_set (i := 1) sc_law.nd rfl (Or.inl rfl) (pe_call (ok_l_deck T) (hr.mono (by decide)) (by rfl) T.g_l_deck T.F_l_deck.kp (b_l_deck T) .nil pass0 (pa_cons (pv 0) pa_nil)))
      (pss_cons (ps_set (i := 2) sc_law.nd rfl (Or.inl rfl) (pe_call (ok_l_draw T) (hr.mono (by decide)) (by rfl) T.g_l_draw T.F_l_draw.kp (b_l_draw T) .nil pass0 (pa_cons (pv 1) (pa_cons pe_int pa_nil))))
      (pss_cons (ps_set (i := 3) sc_law.nd rfl (Or.inl rfl) (pe_call (ok_l_draw T) (hr.mono (by decide)) (by rfl) T.g_l_draw T.F_l_draw.kp (b_l_draw T) .nil pass0 (pa_cons (pv 1) (pa_cons pe_int pa_nil))))
      (pss_cons (ps_set (i := 4) sc_law.nd rfl (Or.inl rfl) (pe_call (ok_l_shape T) (hr.mono (by decide)) (by rfl) T.g_l_shape T.F_l_shape.kp (b_l_shape T) .nil pass0 (pa_cons (pv 1) (pa_cons pe_int pa_nil))))
      (pss_cons (ps_set (i := 5) sc_law.nd rfl (Or.inl rfl) (pe_call (ok_l_spans T) (hr.mono (by decide)) (by rfl) T.g_l_spans T.F_l_spans.kp (b_l_spans T) .nil pass0 (pa_cons (pv 4) pa_nil)))
      (pss_cons (ps_if (pt_cmpR op_eq (pe_call (ok_l_draw T) (hr.mono (by decide)) (by rfl) T.g_l_draw T.F_l_draw.kp (b_l_draw T) .nil pass0 (pa_cons (pv 1) (pa_cons pe_int pa_nil))) pe_int (nomark _)) (pss_one (ps_set (i := 6) sc_law.nd rfl (Or.inl rfl) (pe_call (ok_l_wild T) (hr.mono (by decide)) (by rfl) T.g_l_wild T.F_l_wild.kp (b_l_wild T) .nil pass0 (pa_cons (pv 1) (pa_cons (pv 4) pa_nil))))) (pss_one (ps_set (i := 6) sc_law.nd rfl (Or.inl rfl) (pe_call (ok_l_answers T) (hr.mono (by decide)) (by rfl) T.g_l_answers T.F_l_answers.kp (b_l_answers T) .nil pass0 (pa_cons (pv 1) (pa_cons (pv 4) (pa_cons (pe_call (ok_l_lower T) (hr.mono (by decide)) (by rfl) T.g_l_lower T.F_l_lower.kp (b_l_lower T) .nil pass0 (pa_cons (pv 1) (pa_cons (pv 5) pa_nil))) pa_nil)))))))
      (pss_cons (ps_set (i := 7) sc_law.nd rfl (Or.inl rfl) (pe_call (ok_l_made_up T) (hr.mono (by decide)) (by rfl) T.g_l_made_up T.F_l_made_up.kp (b_l_made_up T) .nil pass0 (pa_cons (pv 1) (pa_cons (pv 4) pa_nil))))
      (pss_cons (ps_if (pt_cmpR op_gt (pv 2) pe_int (nomark _)) (pss_one (ps_try_two (tb := fun W => (tAsg (tCallS (sp_paper K) (WE W) (tCons (tVar 4) (tCons (tVar 6) tNil))) (gName 7))) (ts := fun _ _ _ => (tAsg (tC (.int 0)) (gName 3))) rfl rfl (fun W pn xe tk _ => (pss_one (ps_set (i := 7) sc_law.nd rfl (Or.inl rfl) (pe_callS (ok_paper T) (hr.mono (by decide)) (by rfl) T.g_paper T.F_paper.kp (b_paper T) (fun σ => passAt tk σ) (pa_cons (pv 4) (pa_cons (pv 6) pa_nil)))))) ⟨rfl, by decide, .inl T.gc_Contrary⟩ ⟨rfl, by decide, .inl T.gc_Unsettled⟩ (fun a oe cls d pn _ _ => (pss_one (ps_set (i := 3) sc_law.nd rfl (Or.inl rfl) pe_int))))) pss_nil)
      (pss_cons (ps_if (pt_cmpR op_eq (pv 2) pe_int (nomark _)) (pss_one (ps_set (i := 7) sc_law.nd rfl (Or.inl rfl) (pe_call (ok_l_odd T) (hr.mono (by decide)) (by rfl) T.g_l_odd T.F_l_odd.kp (b_l_odd T) .nil pass0 (pa_cons (pv 1) pa_nil)))) (pss_one (ps_for PassesOwn.never rfl (pi_range1 (by rfl) T.z_range (pa_cons (pv 3) pa_nil)) (pg_name (i := 8) sc_law.nd rfl (Or.inl rfl)) (pss_one (ps_set (i := 7) sc_law.nd rfl (Or.inl rfl) (pe_call (ok_l_bent T) (hr.mono (by decide)) (by rfl) T.g_l_bent T.F_l_bent.kp (b_l_bent T) .nil pass0 (pa_cons (pv 1) (pa_cons (pv 7) (pa_cons pe_int pa_nil)))))))))
      (pss_cons (ps_set (i := 9) sc_law.nd rfl (Or.inl rfl) (pe_and (pe_cmpR op_isN (pe_call (ok_l_clash T) (hr.mono (by decide)) (by rfl) T.g_l_clash T.F_l_clash.kp (b_l_clash T) .nil pass0 (pa_cons (pv 5) (pa_cons (pv 6) pa_nil))) pe_non (nomark _)) (pe_one (pe_call (ok_l_is_paperA T) (hr.mono (by decide)) (by rfl) T.g_l_is_paperA T.F_l_is_paperA.kp (b_l_is_paperA T) .nil pass0 (pa_cons (pv 4) (pa_cons (pv 6) (pa_cons (pv 7) pa_nil)))))))
      (pss_one (ps_ret (pe_call (ok_l_truth T) (hr.mono (by decide)) (by rfl) T.g_l_truth T.F_l_truth.kp (b_l_truth T) .nil pass0 (pa_cons (pe_call (ok_right_paperA T) (hr.mono (by decide)) (by rfl) T.g_right_paperA T.F_right_paperA.kp (b_right_paperA T) .nil pass0 (pa_cons (pv 4) (pa_cons (pv 6) (pa_cons (pv 7) pa_nil)))) (pa_cons (pv 9) pa_nil)))))))))))))))
end
def d_Contrary_init : He.DefD := ⟨("Contrary", some "__init__"), "__init__", "Contrary.__init__", defArgs s_Contrary_init, defBody s_Contrary_init, defScope s_Contrary_init, [], []⟩
def d_Unsettled_init : He.DefD := ⟨("Unsettled", some "__init__"), "__init__", "Unsettled.__init__", defArgs s_Unsettled_init, defBody s_Unsettled_init, defScope s_Unsettled_init, [], []⟩
def d_l_deck : He.DefD := ⟨("_law_deck", none), "_law_deck", "_law_deck", defArgs s_l_deck, defBody s_l_deck, defScope s_l_deck, [], []⟩
def d_l_mixed : He.DefD := ⟨("_law_mixed", none), "_law_mixed", "_law_mixed", defArgs s_l_mixed, defBody s_l_mixed, defScope s_l_mixed, [], []⟩
def d_l_draw : He.DefD := ⟨("_law_draw", none), "_law_draw", "_law_draw", defArgs s_l_draw, defBody s_l_draw, defScope s_l_draw, [], []⟩
def d_l_shape : He.DefD := ⟨("_law_shape", none), "_law_shape", "_law_shape", defArgs s_l_shape, defBody s_l_shape, defScope s_l_shape, [], []⟩
def d_l_spans : He.DefD := ⟨("_law_spans", none), "_law_spans", "_law_spans", defArgs s_l_spans, defBody s_l_spans, defScope s_l_spans, [], []⟩
def d_l_wild : He.DefD := ⟨("_law_wild", none), "_law_wild", "_law_wild", defArgs s_l_wild, defBody s_l_wild, defScope s_l_wild, [], []⟩
def d_l_answers : He.DefD := ⟨("_law_answers", none), "_law_answers", "_law_answers", defArgs s_l_answers, defBody s_l_answers, defScope s_l_answers, [], []⟩
def d_l_lower : He.DefD := ⟨("_law_lower", none), "_law_lower", "_law_lower", defArgs s_l_lower, defBody s_l_lower, defScope s_l_lower, [], []⟩
def d_l_walk : He.DefD := ⟨("_law_walk", none), "_law_walk", "_law_walk", defArgs s_l_walk, defBody s_l_walk, defScope s_l_walk, [], []⟩
def d_l_made_up : He.DefD := ⟨("_law_made_up", none), "_law_made_up", "_law_made_up", defArgs s_l_made_up, defBody s_l_made_up, defScope s_l_made_up, [], []⟩
def d_lowest_lacking : He.DefD := ⟨("lowest_lacking", none), "lowest_lacking", "lowest_lacking", defArgs s_lowest_lacking, defBody s_lowest_lacking, defScope s_lowest_lacking, [], []⟩
def d_refuse_contrary : He.DefD := ⟨("refuse_contrary", none), "refuse_contrary", "refuse_contrary", defArgs s_refuse_contrary, defBody s_refuse_contrary, defScope s_refuse_contrary, [], []⟩
def d_with_lower : He.DefD := ⟨("with_lower", none), "with_lower", "with_lower", defArgs s_with_lower, defBody s_with_lower, defScope s_with_lower, [], []⟩
def d_settled : He.DefD := ⟨("settled", none), "settled", "settled", defArgs s_settled, defBody s_settled, defScope s_settled, [], []⟩
def d_steps_up : He.DefD := ⟨("steps_up", none), "steps_up", "steps_up", defArgs s_steps_up, defBody s_steps_up, defScope s_steps_up, [], []⟩
def d_steps_down : He.DefD := ⟨("steps_down", none), "steps_down", "steps_down", defArgs s_steps_down, defBody s_steps_down, defScope s_steps_down, [], []⟩
def d_followed : He.DefD := ⟨("followed", none), "followed", "followed", defArgs s_followed, defBody s_followed, defScope s_followed, [], []⟩
def d_paper : He.DefD := ⟨("paper", none), "paper", "paper", defArgs s_paper, defBody s_paper, defScope s_paper, [], []⟩
def d_l_odd : He.DefD := ⟨("_law_odd", none), "_law_odd", "_law_odd", defArgs s_l_odd, defBody s_l_odd, defScope s_l_odd, [], []⟩
def d_l_int : He.DefD := ⟨("_law_int", none), "_law_int", "_law_int", defArgs s_l_int, defBody s_l_int, defScope s_l_int, [], []⟩
def d_l_bent : He.DefD := ⟨("_law_bent", none), "_law_bent", "_law_bent", defArgs s_l_bent, defBody s_l_bent, defScope s_l_bent, [], []⟩
def d_l_clash : He.DefD := ⟨("_law_clash", none), "_law_clash", "_law_clash", defArgs s_l_clash, defBody s_l_clash, defScope s_l_clash, [], []⟩
def d_l_is_wayA : He.DefD := ⟨("_law_is_way", none), "_law_is_way", "_law_is_way", defArgs s_l_is_wayA, defBody s_l_is_wayA, defScope s_l_is_wayA, [], []⟩
def d_l_is_paperA : He.DefD := ⟨("_law_is_paper", none), "_law_is_paper", "_law_is_paper", defArgs s_l_is_paperA, defBody s_l_is_paperA, defScope s_l_is_paperA, [], []⟩
def d_l_truth : He.DefD := ⟨("_law_truth", none), "_law_truth", "_law_truth", defArgs s_l_truth, defBody s_l_truth, defScope s_l_truth, [], []⟩
def d_are_contraryA : He.DefD := ⟨("are_contrary", none), "are_contrary", "are_contrary", defArgs s_are_contraryA, defBody s_are_contraryA, defScope s_are_contraryA, [], []⟩
def d_is_pair : He.DefD := ⟨("is_pair", none), "is_pair", "is_pair", defArgs s_is_pair, defBody s_is_pair, defScope s_is_pair, [], []⟩
def d_is_int : He.DefD := ⟨("is_int", none), "is_int", "is_int", defArgs s_is_int, defBody s_is_int, defScope s_is_int, [], []⟩
def d_is_ints : He.DefD := ⟨("is_ints", none), "is_ints", "is_ints", defArgs s_is_ints, defBody s_is_ints, defScope s_is_ints, [], []⟩
def d_is_walk_downA : He.DefD := ⟨("is_walk_down", none), "is_walk_down", "is_walk_down", defArgs s_is_walk_downA, defBody s_is_walk_downA, defScope s_is_walk_downA, [], []⟩
def d_showsA : He.DefD := ⟨("shows", none), "shows", "shows", defArgs s_showsA, defBody s_showsA, defScope s_showsA, [], []⟩
def d_right_paperA : He.DefD := ⟨("right_paper", none), "right_paper", "right_paper", defArgs s_right_paperA, defBody s_right_paperA, defScope s_right_paperA, [], []⟩
def d_law : He.DefD := ⟨("law", none), "law", "law", defArgs s_law, defBody s_law, defScope s_law, [], []⟩
def fn : List He.DefD := [d_Contrary_init, d_Unsettled_init, d_l_deck, d_l_mixed, d_l_draw, d_l_shape, d_l_spans, d_l_wild, d_l_answers, d_l_lower, d_l_walk, d_l_made_up, d_lowest_lacking, d_refuse_contrary, d_with_lower, d_settled, d_steps_up, d_steps_down, d_followed, d_paper, d_l_odd, d_l_int, d_l_bent, d_l_clash, d_l_is_wayA, d_l_is_paperA, d_l_truth, d_are_contraryA, d_is_pair, d_is_int, d_is_ints, d_is_walk_downA, d_showsA, d_right_paperA, d_law]
def fa : List He.Fa := [.glo "_law_deck", .glo "_law_mixed", .glo "_law_draw", .glo "_law_shape", .glo "_law_spans", .glo "_law_wild", .glo "_law_answers", .glo "_law_lower", .glo "_law_walk", .glo "_law_made_up", .glo "lowest_lacking", .glo "refuse_contrary", .glo "with_lower", .glo "settled", .glo "steps_up", .glo "steps_down", .glo "followed", .glo "paper", .glo "_law_odd", .glo "_law_int", .glo "_law_bent", .glo "_law_clash", .glo "_law_is_way", .glo "_law_is_paper", .glo "_law_truth", .glo "are_contrary", .glo "is_pair", .glo "is_int", .glo "is_ints", .glo "is_walk_down", .glo "shows", .glo "right_paper", .glo "law", .free "all", .free "bool", .free "int", .free "isinstance", .free "len", .free "list", .free "min", .free "range", .free "reversed", .free "sorted", .free "str", .free "tuple", .free "zip", .glo "HouseError", .glo "Contrary", .glo "Unsettled"]
abbrev R : PySem.W.OpenRow := PySem.W.OpenLaw.row PySem.Challenge.rw_fewasks_k23_papers_looked_at
abbrev hk : PySem.W.Hook := Fw.hookY 4 fa fn Fw.k23B
def ob (s : PySem.W.SharedT) : Fw.AlY := Fw.obsYG 4 fa fn Fw.k23B (HandSHeadRun.getT s)
theorem ob_eq (s : PySem.W.SharedT) : ob s = hk.obs s.abs := Fw.obsYG_eq (HandSHeadRun.getT_eq s)
def loose : List Str := [("HouseError" : Str), ("Contrary" : Str), ("Unsettled" : Str), ("is_int" : Str), ("is_pair" : Str), ("is_ints" : Str), ("with_lower" : Str), ("followed" : Str), ("settled" : Str), ("lowest_lacking" : Str), ("refuse_contrary" : Str), ("right_paper" : Str), ("are_contrary" : Str), ("shows" : Str), ("is_walk_down" : Str), ("paper" : Str), ("steps_up" : Str), ("steps_down" : Str), ("_law_deck" : Str), ("_law_mixed" : Str), ("_law_draw" : Str), ("_law_int" : Str), ("_law_shape" : Str), ("_law_spans" : Str), ("_law_lower" : Str), ("_law_odd" : Str), ("_law_bent" : Str), ("_law_answers" : Str), ("_law_wild" : Str), ("_law_clash" : Str), ("_law_is_way" : Str), ("_law_is_paper" : Str), ("_law_truth" : Str), ("_law_walk" : Str), ("_law_made_up" : Str)]
theorem run (w : World) : HandSHeadRun.RunEq R (PySem.W.view R.prog [41]) hk ob 4000 loose w := by
  intro os
  kernel_rfl
theorem facts {P : Program} {w : World} {K : PySem.W.Frag} {h : Heap} {mg : Str → Option Value} {f : Addr} (X : K.In h) (G : h.Ns mainGlobals mg) (hfa : mg ("law" : Str) = some (.ref f)) (c : He.SaysD fa fn K) (m : Fw.k23B K = true) :
    ∃ fd : FuncData, (∀ (s : Shared) (v : Value), BindsTo s fd ⟨[v], []⟩ [("_law_script", v)]) ∧ ∀ base : Heap, K.In base → base.Ns mainGlobals mg → FnOk P w K mg base CX0 9 f fd ["_law_script"] (sp_law K) := by
  obtain ⟨fd0, F0⟩ := c.def_ 0 (d := d_Contrary_init) rfl
  obtain ⟨fd1, F1⟩ := c.def_ 1 (d := d_Unsettled_init) rfl
  obtain ⟨fd2, F2⟩ := c.def_ 2 (d := d_l_deck) rfl
  obtain ⟨fd3, F3⟩ := c.def_ 3 (d := d_l_mixed) rfl
  obtain ⟨fd4, F4⟩ := c.def_ 4 (d := d_l_draw) rfl
  obtain ⟨fd5, F5⟩ := c.def_ 5 (d := d_l_shape) rfl
  obtain ⟨fd6, F6⟩ := c.def_ 6 (d := d_l_spans) rfl
  obtain ⟨fd7, F7⟩ := c.def_ 7 (d := d_l_wild) rfl
  obtain ⟨fd8, F8⟩ := c.def_ 8 (d := d_l_answers) rfl
  obtain ⟨fd9, F9⟩ := c.def_ 9 (d := d_l_lower) rfl
  obtain ⟨fd10, F10⟩ := c.def_ 10 (d := d_l_walk) rfl
  obtain ⟨fd11, F11⟩ := c.def_ 11 (d := d_l_made_up) rfl
  obtain ⟨fd12, F12⟩ := c.def_ 12 (d := d_lowest_lacking) rfl
  obtain ⟨fd13, F13⟩ := c.def_ 13 (d := d_refuse_contrary) rfl
  obtain ⟨fd14, F14⟩ := c.def_ 14 (d := d_with_lower) rfl
  obtain ⟨fd15, F15⟩ := c.def_ 15 (d := d_settled) rfl
  obtain ⟨fd16, F16⟩ := c.def_ 16 (d := d_steps_up) rfl
  obtain ⟨fd17, F17⟩ := c.def_ 17 (d := d_steps_down) rfl
  obtain ⟨fd18, F18⟩ := c.def_ 18 (d := d_followed) rfl
  obtain ⟨fd19, F19⟩ := c.def_ 19 (d := d_paper) rfl
  obtain ⟨fd20, F20⟩ := c.def_ 20 (d := d_l_odd) rfl
  obtain ⟨fd21, F21⟩ := c.def_ 21 (d := d_l_int) rfl
  obtain ⟨fd22, F22⟩ := c.def_ 22 (d := d_l_bent) rfl
  obtain ⟨fd23, F23⟩ := c.def_ 23 (d := d_l_clash) rfl
  obtain ⟨fd24, F24⟩ := c.def_ 24 (d := d_l_is_wayA) rfl
  obtain ⟨fd25, F25⟩ := c.def_ 25 (d := d_l_is_paperA) rfl
  obtain ⟨fd26, F26⟩ := c.def_ 26 (d := d_l_truth) rfl
  obtain ⟨fd27, F27⟩ := c.def_ 27 (d := d_are_contraryA) rfl
  obtain ⟨fd28, F28⟩ := c.def_ 28 (d := d_is_pair) rfl
  obtain ⟨fd29, F29⟩ := c.def_ 29 (d := d_is_int) rfl
  obtain ⟨fd30, F30⟩ := c.def_ 30 (d := d_is_ints) rfl
  obtain ⟨fd31, F31⟩ := c.def_ 31 (d := d_is_walk_downA) rfl
  obtain ⟨fd32, F32⟩ := c.def_ 32 (d := d_showsA) rfl
  obtain ⟨fd33, F33⟩ := c.def_ 33 (d := d_right_paperA) rfl
  obtain ⟨fd34, F34⟩ := c.def_ 34 (d := d_law) rfl
  have e := hfa.symm.trans (He.glo_ok X G (c.fact 32 (f := .glo "law") rfl))
  cases e
  have b := FunD.bindsA (ps := ["_law_script"]) F34 fun _ _ _ _ _ _ us hl => match us, hl with | [_], _ => rfl
  exact ⟨fd34, fun s v => b s [v] rfl, fun base _ _ => ok_law (⟨fd0, F0, fd1, F1, fd2, F2, (He.glo_ok X G (c.fact 0 (f := .glo "_law_deck") rfl)), fd3, F3, (He.glo_ok X G (c.fact 1 (f := .glo "_law_mixed") rfl)), fd4, F4, (He.glo_ok X G (c.fact 2 (f := .glo "_law_draw") rfl)), fd5, F5, (He.glo_ok X G (c.fact 3 (f := .glo "_law_shape") rfl)), fd6, F6, (He.glo_ok X G (c.fact 4 (f := .glo "_law_spans") rfl)), fd7, F7, (He.glo_ok X G (c.fact 5 (f := .glo "_law_wild") rfl)), fd8, F8, (He.glo_ok X G (c.fact 6 (f := .glo "_law_answers") rfl)), fd9, F9, (He.glo_ok X G (c.fact 7 (f := .glo "_law_lower") rfl)), fd10, F10, (He.glo_ok X G (c.fact 8 (f := .glo "_law_walk") rfl)), fd11, F11, (He.glo_ok X G (c.fact 9 (f := .glo "_law_made_up") rfl)), fd12, F12, (He.glo_ok X G (c.fact 10 (f := .glo "lowest_lacking") rfl)), fd13, F13, (He.glo_ok X G (c.fact 11 (f := .glo "refuse_contrary") rfl)), fd14, F14, (He.glo_ok X G (c.fact 12 (f := .glo "with_lower") rfl)), fd15, F15, (He.glo_ok X G (c.fact 13 (f := .glo "settled") rfl)), fd16, F16, (He.glo_ok X G (c.fact 14 (f := .glo "steps_up") rfl)), fd17, F17, (He.glo_ok X G (c.fact 15 (f := .glo "steps_down") rfl)), fd18, F18, (He.glo_ok X G (c.fact 16 (f := .glo "followed") rfl)), fd19, F19, (He.glo_ok X G (c.fact 17 (f := .glo "paper") rfl)), fd20, F20, (He.glo_ok X G (c.fact 18 (f := .glo "_law_odd") rfl)), fd21, F21, (He.glo_ok X G (c.fact 19 (f := .glo "_law_int") rfl)), fd22, F22, (He.glo_ok X G (c.fact 20 (f := .glo "_law_bent") rfl)), fd23, F23, (He.glo_ok X G (c.fact 21 (f := .glo "_law_clash") rfl)), fd24, F24, (He.glo_ok X G (c.fact 22 (f := .glo "_law_is_way") rfl)), fd25, F25, (He.glo_ok X G (c.fact 23 (f := .glo "_law_is_paper") rfl)), fd26, F26, (He.glo_ok X G (c.fact 24 (f := .glo "_law_truth") rfl)), fd27, F27, (He.glo_ok X G (c.fact 25 (f := .glo "are_contrary") rfl)), fd28, F28, (He.glo_ok X G (c.fact 26 (f := .glo "is_pair") rfl)), fd29, F29, (He.glo_ok X G (c.fact 27 (f := .glo "is_int") rfl)), fd30, F30, (He.glo_ok X G (c.fact 28 (f := .glo "is_ints") rfl)), fd31, F31, (He.glo_ok X G (c.fact 29 (f := .glo "is_walk_down") rfl)), fd32, F32, (He.glo_ok X G (c.fact 30 (f := .glo "shows") rfl)), fd33, F33, (He.glo_ok X G (c.fact 31 (f := .glo "right_paper") rfl)), fd34, F34, (He.free_ok X G (c.fact 33 (f := .free "all") rfl)), (He.free_ok X G (c.fact 34 (f := .free "bool") rfl)), (He.free_ok X G (c.fact 35 (f := .free "int") rfl)), (He.free_ok X G (c.fact 36 (f := .free "isinstance") rfl)), (He.free_ok X G (c.fact 37 (f := .free "len") rfl)), (He.free_ok X G (c.fact 38 (f := .free "list") rfl)), (He.free_ok X G (c.fact 39 (f := .free "min") rfl)), (He.free_ok X G (c.fact 40 (f := .free "range") rfl)), (He.free_ok X G (c.fact 41 (f := .free "reversed") rfl)), (He.free_ok X G (c.fact 42 (f := .free "sorted") rfl)), (He.free_ok X G (c.fact 43 (f := .free "str") rfl)), (He.free_ok X G (c.fact 44 (f := .free "tuple") rfl)), (He.free_ok X G (c.fact 45 (f := .free "zip") rfl)), (He.glo_ok X G (c.fact 46 (f := .glo "HouseError") rfl)), (He.glo_ok X G (c.fact 47 (f := .glo "Contrary") rfl)), (He.glo_ok X G (c.fact 48 (f := .glo "Unsettled") rfl)), (Fw.k23_of m)⟩ : Tx K mg)⟩
end K23
open PySem PySem.W PySem.Calls PyProof.Rows
set_option maxRecDepth 100000 in
set_option maxHeartbeats 0 in
theorem PySem.Challenge.cw_fewasks_k23_papers_looked_at_holds : PySem.Challenge.rw_fewasks_k23_papers_looked_at.Holds := by
  w_on; o_law
  refine HandSHeadRun.head_any (r := OpenLaw.row PySem.Challenge.rw_fewasks_k23_papers_looked_at) (q := view (OpenLaw.row PySem.Challenge.rw_fewasks_k23_papers_looked_at).prog [41]) (H := K23.hk) (ob := K23.ob) (M := 4000) (loose := K23.loose) (d := HandSHeadRun.topDef (OpenLaw.row PySem.Challenge.rw_fewasks_k23_papers_looked_at).prog 41) (kwd := []) K23.ob_eq
    (by kernel_rfl) (fun s => by kernel_rfl) K23.run (by kernel_rfl) (by kernel_rfl) (by kernel_rfl) (by rfl) (by first | assumption | decide +kernel) (by decide +kernel) ⟨rfl, rfl, rfl, rfl, rfl, by decide +kernel⟩ ?hw ?hc
  case hw => w_witness2
  case hc =>
    refine L2.walk_ofE (l := PySem.Challenge.rw_fewasks_k23_papers_looked_at) (n := 63) (k := 9) (x := "_law_script") (CX := L2.CX0) rfl (by decide) (by kernel_rfl) ⟨rfl, by decide, by decide⟩ ?F (fun _ _ _ _ z => z)
    intro w mg fa h Y G hmg0
    obtain ⟨K, KX, c, m⟩ := Y
    have hmg : mg ("law" : PySem.Str) = some (.ref fa) := by
      have e : (HandSHeadRun.topDef (OpenLaw.row PySem.Challenge.rw_fewasks_k23_papers_looked_at).prog 41).name = ("law" : PySem.Str) := by kernel_rfl
      rw [← e]
      exact hmg0
    obtain ⟨fd, hb, hF⟩ := K23.facts (P := (PySem.Challenge.rw_fewasks_k23_papers_looked_at).prog) (w := w) KX G hmg c m
    exact ⟨K, fd, Fw.sp_law K, KX, hb, fun H a ns hl _ hS => ⟨a, ns, rfl, hS, hl, fun _ => rfl⟩, hF⟩
