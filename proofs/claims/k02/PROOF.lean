import PyProof.Rows.All
import Wide.All
import OpenK.AllK
import Wide.FinOn
import HandS.ForMost
import HandS.Wide
import HandS.IsInst
import HandS.Flow
import HandS.Evl
import PyProof.StrBlock2
import HandS.Conv
import PySem.Challenge.RW_leastjournal_k02_inverses
set_option Elab.async false
set_option linter.all false
set_option maxRecDepth 100000
namespace Lj
open PySem PySem.Spec PyProof.Rows L2
section
variable {X : Cx}
theorem op_mulS : OpR X (binaryOp .Mult) (fun x y H Q => ∃ z n, x = .str z ∧ y = .int n ∧ MulOk z n ∧ Q (.str (Txt.mul z n)) H) := by
  intro pins s σ H x y v u Q I rx ry h
  obtain ⟨z, n, rfl, rfl, ok, q⟩ := h
  obtain ⟨t, rfl⟩ := rx
  obtain ⟨t', rfl⟩ := ry
  exact SB.mul ok fun t2 k => ⟨.str _, H, I.tok _, ⟨_, rfl⟩, q⟩
end
section
variable {X : Cx} {CX : CXT} {k : Nat} {f : Addr} {fd : FuncData} {ps ks : List Str} {sp : Sp} {E : XK} {x : Str} {p pos : Pos} {kws : List Keyword} {tk : TA}
  {g : List Value → List Value → List Value} {gV : List V → List V → List V}
/-- f(k = v, ..), no positional arguments -/
theorem pe_callK0 (F : FnOk X.prog X.w X.K X.mg X.base CX k f fd ps sp) (hr : Room k X.A) (hg : Gl X x) (hm : X.mg x = some (.ref f)) (hk : PySem.W.keepIn X.K (.ref f) = true) (hb : KBinds X.K fd ps ks g gV) (hx : Passes CX X E)
    (hkw : PK X kws tk) (hall : (backToKw pos (keywordEach kws X.env)).all (·.1.isSome) = true := by rfl) (hks : (backToKw pos (keywordEach kws X.env)).filterMap (·.1) = ks := by rfl)
    (hdb : (x == ("__debug__" : Str)) = false := by decide)
    (hpl : ((backTo pos (starEach [] X.env)).any (·.1) || (backToKw pos (keywordEach kws X.env)).any (·.1.isNone)) = false := by rfl) :
    PE X (.Call (.Name x p) [] kws pos) (fun σ H Q => tk σ H fun zs H1 => sp (gV [] zs) H1 Q E) := by
  refine ⟨fun pins s σ H Q I h => ?_⟩
  refine wpAny_Call_Name_kw (ld_glob I hg hm ?_ hdb)
  refine PySem.W.callWith_KW0 (h₀ := X.base) I.ok.mod.kin hk hall (thn (hkw.run pos pins s σ H _ I h) fun ws s2 ⟨zs, H2, I2, rz, q2⟩ => ⟨I2.kIn, ?_⟩) hpl
  rw [hks]
  exact run_fnk (us := []) (vs := []) F hr hb hx I2 .nil rz q2
end
/-! ### heaps -/
theorem same_new {H : Hp} {p : Addr} {o : HO} (h : H p = none) : Same H (upd H p o) := fun b x e => by
  rw [upd_ne (ne_of_none e h)]
  exact e
/-- all but p stands as before -/
def But (p : Addr) (H H' : Hp) : Prop := ∀ b o, b ≠ p → H b = some o → H' b = some o
theorem But.refl (p : Addr) (H : Hp) : But p H H := fun _ _ _ h => h
theorem But.trans {p : Addr} {H H1 H2 : Hp} (a : But p H H1) (b : But p H1 H2) : But p H H2 := fun c o n h => b c o n (a c o n h)
theorem But.same {p : Addr} {H H' : Hp} (s : Same H H') : But p H H' := fun b o _ h => s b o h
theorem But.new {p q : Addr} {H : Hp} {o : HO} (h : H q = none) : But p H (upd H q o) := But.same (same_new h)
theorem But.upd {p : Addr} {H : Hp} {o : HO} : But p H (upd H p o) := fun b x n e => by
  rw [upd_ne n]
  exact e
theorem But.rd {p a : Addr} {H H' : Hp} {u : HO} (b : But p H H') (n : a ≠ p) (h : Rd H a u) : Rd H' a u := by
  rcases h with h | ⟨o, h⟩
  · exact .inl (b _ _ n h)
  · exact .inr ⟨o, b _ _ n h⟩
theorem But.seq {K : PySem.W.Frag} {p a : Addr} {H H' : Hp} {xs : List V} (b : But p H H') (n : a ≠ p) (h : SqL K H a xs) : SqL K H' a xs := by
  rcases h with h | h
  · exact .inl (b.rd n h)
  · exact .inr h
theorem But.tup {K : PySem.W.Frag} {p a : Addr} {H H' : Hp} {xs : List V} (b : But p H H') (n : a ≠ p) (h : SqT K H a xs) : SqT K H' a xs := by
  rcases h with h | h
  · exact .inl (b.rd n h)
  · exact .inr h
/-! ### the urn: two numbers in a list -/
def wide : Nat := 2 ^ 1000
def Urn (H : Hp) (p : Addr) : Prop := ∃ u v : Int, H p = some (.lst [.int u, .int v]) ∧ 0 ≤ u ∧ u.natAbs < wide ∧ 0 ≤ v ∧ v < 2305843009213693951
theorem Urn.but {p q : Addr} {H H' : Hp} (b : But q H H') (n : p ≠ q) (h : Urn H p) : Urn H' p := by
  obtain ⟨u, v, e, r⟩ := h
  exact ⟨u, v, b _ _ n e, r⟩
theorem Urn.same {p : Addr} {H H' : Hp} (b : Same H H') (h : Urn H p) : Urn H' p := by
  obtain ⟨u, v, e, r⟩ := h
  exact ⟨u, v, b _ _ e, r⟩
theorem Urn.ne {p q : Addr} {H : Hp} (h : Urn H p) (e : H q = none) : q ≠ p := by
  obtain ⟨u, v, e', _⟩ := h
  exact (ne_of_none e' e).symm
theorem Urn.free {p q : Addr} {H H' : Hp} (h : Urn H' p) (b : But p H H') (e : H' q = none) : H q = none := by
  have n := h.ne e
  cases z : H q with
  | none => rfl
  | some o => rw [b _ _ n z] at e; cases e
def spUrn (K : PySem.W.Frag) : Sp := fun vs H Q _ => ∃ (a : Addr) (ns : List Int) (k : Int), vs = [.ref a, .int k] ∧ SqL K H a (ns.map V.int) ∧ 0 ≤ k ∧ k ≤ 1000 ∧
  ∀ H' p, Same H H' → H p = none → Urn H' p → Q (.ref p) H'
def spTake : Sp := fun vs H Q _ => ∃ (p : Addr) (n : Int), vs = [.ref p, .int n] ∧ Urn H p ∧ 0 < n ∧ n.natAbs < wide ∧
  ∀ (d : Int) H', 0 ≤ d → d < n → Urn H' p → But p H H' → Q (.int d) H'
def spOf (K : PySem.W.Frag) : Sp := fun vs H Q _ => ∃ (p q : Addr) (xs : List V), vs = [.ref p, .ref q] ∧ Urn H p ∧ q ≠ p ∧ SqL K H q xs ∧ xs ≠ [] ∧ xs.length ≤ 1000 ∧
  ∀ x H', x ∈ xs → Urn H' p → But p H H' → Q x H'
def urnText : Str := "1" ++ Txt.mul "0" 300
theorem urnText_int : PySem.intText? urnText = some (10 ^ 300) := by decide +kernel
theorem urnText_len : urnText.length ≤ 640 := by decide +kernel
theorem mul_ok0 : MulOk "0" 300 := ⟨by decide, fun _ _ => by decide, fun _ _ => by decide⟩
theorem small {n : Nat} (h : n ≤ 1000) : n ≤ sizeLine := Nat.le_of_lt (small1000 h)
theorem own_lt (c : Int) (b : Bool) : 0 ≤ (if c < 0 then -c else c) % 10 ^ 300 * (if b then 1 else 0) ∧ ((if c < 0 then -c else c) % 10 ^ 300 * (if b then 1 else 0)).natAbs < wide := by
  have h1 : 0 ≤ (if c < 0 then -c else c) % (10 ^ 300 : Int) := Int.emod_nonneg _ (by decide)
  have h2 : (if c < 0 then -c else c) % (10 ^ 300 : Int) < 10 ^ 300 := Int.emod_lt_of_pos _ (by decide)
  generalize (if c < 0 then -c else c) % (10 ^ 300 : Int) = z at h1 h2
  have h3 : (10 ^ 300 : Int) < (wide : Int) := by decide +kernel
  have h4 : 0 < wide := by decide +kernel
  cases b with
  | true =>
    rw [if_pos rfl, Int.mul_one]
    exact ⟨h1, by omega⟩
  | false =>
    rw [if_neg Bool.false_ne_true, Int.mul_zero]
    exact ⟨Int.le_refl 0, h4⟩
theorem ind_bd (b : Bool) : -(2 ^ 64) < (if b then 1 else 0 : Int) ∧ (if b then 1 else 0 : Int) < 2 ^ 64 := by
  cases b
  · exact ⟨by decide, by decide⟩
  · exact ⟨by decide, by decide⟩
def nx (v : Int) : Int := (v * 1181783497276652981 + 12345678910987) % 2305843009213693951
theorem nx0 (v : Int) : 0 ≤ nx v := Int.emod_nonneg _ (by decide)
theorem nx1 (v : Int) : nx v < 2305843009213693951 := Int.emod_lt_of_pos _ (by decide)
def ny (v : Int) : Int := (v * 3202034522624059733 + 1) % 2305843009213693951
theorem ny0 (v : Int) : 0 ≤ ny v := Int.emod_nonneg _ (by decide)
theorem ny1 (v : Int) : ny v < 2305843009213693951 := Int.emod_lt_of_pos _ (by decide)
theorem at_int {ns : List Int} {k : Int} (h0 : 0 ≤ k) (h : k < (ns.length : Int)) : ∃ v : Int, v ∈ ns ∧ atI (ns.map V.int) k = some (.int v) := by
  have hk : k.toNat < ns.length := by omega
  have ek : k = ((k.toNat : Nat) : Int) := by omega
  have q : atI (ns.map V.int) ((k.toNat : Nat) : Int) = some (.int ns[k.toNat]) := atI_nat (by rw [List.getElem?_map, List.getElem?_eq_getElem hk] <;> rfl)
  rw [← ek] at q
  exact ⟨ns[k.toNat], List.getElem_mem hk, q⟩
theorem at_any {xs : List V} {k : Int} (h0 : 0 ≤ k) (h : k < (xs.length : Int)) : ∃ v : V, v ∈ xs ∧ atI xs k = some v := by
  have hk : k.toNat < xs.length := by omega
  have ek : k = ((k.toNat : Nat) : Int) := by omega
  have q : atI xs ((k.toNat : Nat) : Int) = some xs[k.toNat] := atI_nat (List.getElem?_eq_getElem hk)
  rw [← ek] at q
  exact ⟨xs[k.toNat], List.getElem_mem hk, q⟩
theorem iteP {c A B : Prop} [Decidable c] (h : c) (a : A) : if decide c = true then A else B := by
  rw [decide_eq_true h]
  exact a
theorem iteN {c A B : Prop} [Decidable c] (h : ¬ c) (b : B) : if decide c = true then A else B := by
  rw [decide_eq_false h]
  exact b
end Lj
set_option Elab.async false
namespace K02
structure EI (p a hi hs lo ls : Int) : Prop where
  lo1 : 1 ≤ lo
  lop : lo ≤ p
  hi1 : 1 ≤ hi
  hip : hi ≤ p
  cop : ∀ d : Int, d ∣ hi → d ∣ lo → d ∣ 1
  eh : ∃ m, hi = a * hs + p * m
  el : ∃ m, lo = a * ls + p * m
theorem EI.start {p a : Int} (h0 : 0 < a) (h1 : a < p) (c : ∀ d : Int, d ∣ p → d ∣ a → d ∣ 1) : EI p a p 0 a 1 :=
  ⟨by omega, by omega, by omega, by omega, c, ⟨1, by rw [Int.mul_zero, Int.mul_one, Int.zero_add]⟩, ⟨0, by rw [Int.mul_one, Int.mul_zero, Int.add_zero]⟩⟩
theorem EI.step {p a hi hs lo ls : Int} (e : EI p a hi hs lo ls) (h : 1 < lo) : EI p a lo ls (hi - hi / lo * lo) (hs - hi / lo * ls) ∧ (hi - hi / lo * lo).toNat < lo.toNat := by
  have em : hi - hi / lo * lo = hi % lo := by rw [Int.emod_def, Int.mul_comm]
  have m0 := Int.emod_nonneg hi (show lo ≠ 0 by omega)
  have m1 := Int.emod_lt_of_pos hi (show 0 < lo by omega)
  have l1 := e.lop
  have nz : hi - hi / lo * lo ≠ 0 := fun z => by
    have d : lo ∣ hi := ⟨hi / lo, by rw [Int.mul_comm]; omega⟩
    have d1 := e.cop lo d (Int.dvd_refl _)
    have d2 := Int.le_of_dvd (by decide) d1
    omega
  refine ⟨⟨by omega, by omega, by omega, by omega, fun d d1 d2 => e.cop d ?_ d1, e.el, ?_⟩, by omega⟩
  · have z : hi = (hi - hi / lo * lo) + hi / lo * lo := by omega
    rw [z]
    exact Int.dvd_add d2 (Int.dvd_mul_of_dvd_right d1)
  · obtain ⟨m, hm⟩ := e.eh
    obtain ⟨n, hn⟩ := e.el
    refine ⟨m - hi / lo * n, ?_⟩
    generalize hi / lo = q
    rw [hm, hn]
    grind
theorem EI.done {p a hi hs lo ls : Int} (e : EI p a hi hs lo ls) (h : ¬ 1 < lo) (hp : 1 < p) : 0 < ls % p ∧ ls % p < p ∧ (ls % p * a) % p = 1 := by
  obtain ⟨n, hn⟩ := e.el
  have l1 := e.lo1
  have l2 : lo = 1 := by omega
  have r0 := Int.emod_nonneg ls (show p ≠ 0 by omega)
  have r1 := Int.emod_lt_of_pos ls (show 0 < p by omega)
  have r2 : (ls % p * a) % p = 1 := by
    rw [Int.mul_emod, Int.emod_emod, ← Int.mul_emod]
    have z : ls * a = 1 + p * (-n) := by grind
    rw [z, Int.add_mul_emod_self_left]
    exact Int.emod_eq_of_lt (by decide) hp
  refine ⟨?_, r1, r2⟩
  by_cases z : ls % p = 0
  · rw [z, Int.zero_mul, Int.zero_emod] at r2
    cases r2
  · omega
theorem inv_uniq {p a x y : Int} (x0 : 0 < x) (x1 : x < p) (y0 : 0 < y) (y1 : y < p) (hx : x * a % p = 1) (hy : y * a % p = 1) : x = y := by
  have h1 : x * (y * a) % p = x := by
    rw [Int.mul_emod, hy, Int.mul_one, Int.emod_emod]
    exact Int.emod_eq_of_lt (by omega) x1
  have h2 : y * (x * a) % p = y := by
    rw [Int.mul_emod, hx, Int.mul_one, Int.emod_emod]
    exact Int.emod_eq_of_lt (by omega) y1
  have z : x * (y * a) = y * (x * a) := by grind
  rw [z] at h1
  exact h1.symm.trans h2
/-- no divisor but 1 in common -/
def Cop (p a : Int) : Prop := ∀ d : Int, d ∣ p → d ∣ a → d ∣ 1
theorem cop_of_inv {p a x : Int} (h : x * a % p = 1) : Cop p a := fun d d1 d2 => by
  have z : (1 : Int) = x * a - p * (x * a / p) := by
    rw [← h]
    exact Int.emod_def _ _
  rw [z]
  exact Int.dvd_sub (Int.dvd_mul_of_dvd_right d2) (Int.dvd_mul_of_dvd_left d1)
theorem cop_of_gcd {p a : Nat} (h : Nat.gcd a p = 1) : Cop (p : Int) (a : Int) := fun d d1 d2 => by
  have z : d ∣ ((Int.gcd (a : Int) (p : Int) : Nat) : Int) := Int.dvd_coe_gcd d2 d1
  have z2 : Int.gcd (a : Int) (p : Int) = 1 := by
    show Nat.gcd (a : Int).natAbs (p : Int).natAbs = 1
    exact h
  rw [z2] at z
  exact z
def primes : List Nat := [2, 2, 3, 3, 5, 7, 7, 11, 13, 97, 251, 9973, 10007]
theorem primes_ok : (primes.all fun q => (List.range q).all fun c => c == 0 || Nat.gcd c q == 1) = true := by decide +kernel
theorem cop_prime {q c : Int} (hq : q ∈ primes.map (fun n : Nat => (n : Int))) (h0 : 0 < c) (h1 : c < q) : Cop q c := by
  obtain ⟨n, hn, rfl⟩ := List.mem_map.mp hq
  have k := List.all_eq_true.mp (List.all_eq_true.mp primes_ok n hn) c.toNat (List.mem_range.mpr (by omega))
  have e : c = ((c.toNat : Nat) : Int) := by omega
  rw [e]
  refine cop_of_gcd ?_
  rcases Bool.or_eq_true_iff.mp k with k | k
  · have := eq_of_beq k
    omega
  · exact eq_of_beq k
theorem prime_bd {q : Int} (hq : q ∈ primes.map (fun n : Nat => (n : Int))) : 1 < q ∧ q ≤ 10007 := by
  obtain ⟨n, hn, rfl⟩ := List.mem_map.mp hq
  have : (primes.all fun q => decide (1 < q) && decide (q ≤ 10007)) = true := by decide
  have k := List.all_eq_true.mp this n hn
  rw [Bool.and_eq_true] at k
  have k1 := of_decide_eq_true k.1
  have k2 := of_decide_eq_true k.2
  omega
/-- the inverse of a product -/
theorem inv_mul {p c b x y : Int} (hp : 1 < p) (hx : x * c % p = 1) (hy : y * b % p = 1) : (x * y % p) * (c * b % p) % p = 1 ∧ 0 < x * y % p ∧ x * y % p < p ∧ 0 < c * b % p ∧ c * b % p < p := by
  have h : (x * y % p) * (c * b % p) % p = 1 := by
    rw [← Int.mul_emod]
    have z : x * y * (c * b) = (x * c) * (y * b) := by grind
    rw [z, Int.mul_emod, hx, hy]
    exact Int.emod_eq_of_lt (by decide) hp
  have a0 := Int.emod_nonneg (x * y) (show p ≠ 0 by omega)
  have a1 := Int.emod_lt_of_pos (x * y) (show 0 < p by omega)
  have b0 := Int.emod_nonneg (c * b) (show p ≠ 0 by omega)
  have b1 := Int.emod_lt_of_pos (c * b) (show 0 < p by omega)
  have na : x * y % p ≠ 0 := fun z => by
    rw [z, Int.zero_mul, Int.zero_emod] at h
    cases h
  have nb : c * b % p ≠ 0 := fun z => by
    rw [z, Int.mul_zero, Int.zero_emod] at h
    cases h
  exact ⟨h, by omega, a1, by omega, b1⟩
theorem mul_cop {p c b r : Int} (hp : 1 < p) (hr : r * c % p = 1) (b0 : 0 < b) (b1 : b < p) (cb : Cop p b) : 0 < c * b % p ∧ c * b % p < p ∧ Cop p (c * b % p) := by
  have m0 := Int.emod_nonneg (c * b) (show p ≠ 0 by omega)
  have m1 := Int.emod_lt_of_pos (c * b) (show 0 < p by omega)
  have er : r * c = 1 + p * (r * c / p) := by
    have := Int.emod_def (r * c) p
    omega
  have em : c * b = c * b % p + p * (c * b / p) := by
    have := Int.emod_def (c * b) p
    omega
  have key : ∀ d : Int, d ∣ p → d ∣ c * b % p → d ∣ b := fun d d1 d2 => by
    have h1 : d ∣ c * b := by
      rw [em]
      exact Int.dvd_add d2 (Int.dvd_mul_of_dvd_left d1)
    have h2 : b = r * (c * b) - p * (r * c / p * b) := by
      have : r * (c * b) = (r * c) * b := by grind
      rw [this]
      generalize r * c / p = k at er
      rw [er]
      grind
    rw [h2]
    exact Int.dvd_sub (Int.dvd_mul_of_dvd_right h1) (Int.dvd_mul_of_dvd_left d1)
  refine ⟨?_, m1, fun d d1 d2 => cb d d1 (key d d1 d2)⟩
  by_cases z : c * b % p = 0
  · have h := key p (Int.dvd_refl p) (by rw [z]; exact Int.dvd_zero p)
    have := Int.le_of_dvd b0 h
    omega
  · omega
end K02
set_option Elab.async false
set_option linter.all false
set_option maxRecDepth 100000
namespace K02
open PySem PySem.Spec PyProof.Rows L2 Lj
def topS (i : Nat) : Stmt := PySem.Challenge.pw_leastjournal_k02_inverses.main.body.getD i (.Pass ⟨0, 0, 0, 0⟩)
abbrev sUrn : Stmt := topS 3
theorem scUrn : FnScope ["_law_script", "_law_k", "_law_cell", "_law_own"] ["_law_script", "_law_k"] (defScope sUrn) := ⟨rfl, rfl, rfl, by decide +kernel, rfl, by decide +kernel, by decide +kernel⟩
abbrev sTake : Stmt := topS 4
theorem scTake : FnScope ["_law_urn_here", "_law_below", "_law_digit", "_law_mixed"] ["_law_urn_here", "_law_below"] (defScope sTake) := ⟨rfl, rfl, rfl, by decide +kernel, rfl, by decide +kernel, by decide +kernel⟩
abbrev sOf : Stmt := topS 5
theorem scOf : FnScope ["_law_urn_here", "_law_items"] ["_law_urn_here", "_law_items"] (defScope sOf) := ⟨rfl, rfl, rfl, by decide +kernel, rfl, by decide +kernel, by decide +kernel⟩
abbrev sPrime : Stmt := topS 6
theorem scPrime : FnScope ["_law_urn_here"] ["_law_urn_here"] (defScope sPrime) := ⟨rfl, rfl, rfl, by decide +kernel, rfl, by decide +kernel, by decide +kernel⟩
abbrev sRight : Stmt := topS 7
theorem scRight : FnScope ["_law_urn_here", "_law_q", "_law_some", "_law_c", "_law_found", "_law_b", "_law_turn"] ["_law_urn_here"] (defScope sRight) := ⟨rfl, rfl, rfl, by decide +kernel, rfl, by decide +kernel, by decide +kernel⟩
abbrev sLaw : Stmt := topS 8
theorem scLaw : FnScope ["_law_script", "_law_k", "_law_urn_here", "_law_turn"] ["_law_script"] (defScope sLaw) := ⟨rfl, rfl, rfl, by decide +kernel, rfl, by decide +kernel, by decide +kernel⟩
abbrev sInv : Stmt := topS 1
theorem scInv : FnScope ["p", "a", "high", "high_share", "low", "low_share", "quotient"] ["p", "a"] (defScope sInv) := ⟨rfl, rfl, rfl, by decide +kernel, rfl, by decide +kernel, by decide +kernel⟩
section
variable {P : Program} {w : World} {K : PySem.W.Frag} {mg : Str → Option Value} {base : Heap}
theorem ok_urn {f : Addr} {fd : FuncData} {k : Nat} (F : Fun K "_law_urn" "_law_urn" sUrn f fd) (ml : mg "len" = none) (ma : mg "abs" = none) (mi : mg "int" = none) :
    FnOk P w K mg base CX0 (k + 1) f fd ["_law_script", "_law_k"] (spUrn K) := by
  refine F.ok scUrn (fun vs H Q E h => ?_) (fun cdv A outer s H vs Q E hr h => ?_)
  · obtain ⟨a, ns, k, rfl, _⟩ := h
    rfl
  obtain ⟨a, ns, k, rfl, hS, h0, h1, q⟩ := h
  refine ⟨_, Evl.pss_cut (ps_set (i := 2) scUrn.nd rfl (.inl rfl) (pe_ifExp (pt_cmpR op_lt (pv 1) (pe_callB call_len_seq (by rfl) ml PySem.boot_len (pa_cons (pv 0) pa_nil)) (nomark _)) (pe_ix ix_list (pv 0) (pv 1) (fun _ _ => rfl)) (pe_op op_add (pe_op op_mul pe_int (pv 1)) pe_int)))
    (pss_cons (ps_set (i := 3) scUrn.nd rfl (.inl rfl) (pe_op op_mul (pe_op op_mod (pe_callB call_abs (by rfl) ma (by decide +kernel) (pa_cons (pv 2) pa_nil)) (pe_callTy call_int_str (by rfl) mi (by decide +kernel) (pa_cons (pe_op op_add_str pe_str (pe_op op_mulS pe_str pe_int)) pa_nil)))
       (pe_callTy call_int1 (by rfl) mi (by decide +kernel) (pa_cons (pe_cmpR op_ge (pe_callB call_abs (by rfl) ma (by decide +kernel) (pa_cons (pv 2) pa_nil)) (pe_op op_pow pe_int pe_int) (nomark _)) pa_nil))))
    (pss_one (ps_ret (pe_lst (pa_cons (pv 3) (pa_cons (pe_op op_mod (pe_op op_mul (pe_op op_add (pe_op op_add (pe_op op_mod (pv 2) pe_int) (pe_op op_mul (pe_op op_mul pe_int (pv 1)) (pv 1))) pe_int) pe_int) pe_int) pa_nil)))))), ?_⟩
  refine ⟨fun σ H' => ∃ c : Int, σ = [some (.ref a), some (.int k), some (.int c), none] ∧ H' = H, ?_, ?_⟩
  · refine ⟨_, rfl, _, rfl, a, _, rfl, .inl hS, _, _, rfl, rfl, _, rfl, ite2 (fun c => ?_) (fun c => ?_)⟩
    · have c' : k < (((ns.map V.int).length : Nat) : Int) := of_decide_eq_true c
      rw [List.length_map] at c'
      obtain ⟨v, _, hv⟩ := at_int (ns := ns) h0 c'
      exact ⟨_, rfl, _, rfl, a, _, _, _, rfl, rfl, hS, hv, v, rfl, rfl⟩
    · exact ⟨_, rfl, 3, k, rfl, rfl, .inl ⟨by decide, by decide⟩, _, _, rfl, rfl, _, rfl, rfl⟩
  · rintro σ' H' ⟨c, rfl, rfl⟩
    refine ⟨_, rfl, c, rfl, _, _, rfl, rfl, mul_ok0, _, _, rfl, rfl, (by decide +kernel), _, _, rfl, urnText_int, urnText_len, _, _, rfl, rfl, (by show (0 : Int) < 10 ^ 300; decide +kernel), _, rfl, c, rfl, 10, 18, rfl, rfl, ⟨by decide, by decide, by decide⟩, _, _, rfl, rfl, .inr ⟨_, rfl, _, _, rfl, rfl, .inr ?_, ?_⟩⟩
    · exact ind_bd _
    obtain ⟨o1, o2⟩ := own_lt c (decide (10 ^ (18 : Int).toNat ≤ if c < 0 then -c else c))
    refine ⟨_, rfl, _, rfl, c, _, rfl, rfl, (by show (0 : Int) < 2305843009213693951; decide), _, rfl, 7919, k, rfl, rfl, .inl ⟨by decide, by decide⟩, _, rfl, _, k, rfl, rfl, .inl ⟨by omega, by omega⟩, _, _, rfl, rfl, _, _, rfl, rfl, _, _, rfl, rfl, .inr ⟨by decide, by decide⟩, _, _, rfl, rfl, (by show (0 : Int) < 2305843009213693951; decide), (by show 2 ≤ sizeLine; decide), fun p np => ?_⟩
    exact q _ p (same_new np) np ⟨_, _, upd_same, o1, o2, Int.emod_nonneg _ (by decide), Int.emod_lt_of_pos _ (by decide)⟩
theorem ok_take {f : Addr} {fd : FuncData} {k : Nat} (F : Fun K "_law_take" "_law_take" sTake f fd) :
    FnOk P w K mg base CX0 (k + 1) f fd ["_law_urn_here", "_law_below"] spTake := by
  refine F.ok scTake (fun vs H Q E h => ?_) (fun cdv A outer s H vs Q E hr h => ?_)
  · obtain ⟨p, n, rfl, _⟩ := h
    rfl
  obtain ⟨p, n, rfl, ⟨u, v, hp, u0, u1, v0, v1⟩, n0, n1, q⟩ := h
  refine ⟨_, pss_cons (ps_if (pt_cmpR op_gt (pe_ix ix_list (pv 0) pe_int (fun _ _ => rfl)) pe_int (nomark _))
      (pss_cons (ps_set (i := 2) scTake.nd rfl (.inl rfl) (pe_op op_mod (pe_ix ix_list (pv 0) pe_int (fun _ _ => rfl)) (pv 1)))
      (pss_cons (ps_asg (pe_op op_fdivW (pe_ix ix_list (pv 0) pe_int (fun _ _ => rfl)) (pv 1)) (pg_sub (pv 0) pe_int set_list))
      (pss_one (ps_ret (pv 2))))) pss_nil)
    (pss_cons (ps_asg (pe_op op_mod (pe_op op_add (pe_op op_mul (pe_ix ix_list (pv 0) pe_int (fun _ _ => rfl)) pe_int) pe_int) pe_int) (pg_sub (pv 0) pe_int set_list))
    (pss_cons (ps_set (i := 3) scTake.nd rfl (.inl rfl) (pe_op op_mod (pe_op op_mul (pe_op op_fdiv (pe_ix ix_list (pv 0) pe_int (fun _ _ => rfl)) pe_int) (pe_op op_add (pe_op op_mod (pe_ix ix_list (pv 0) pe_int (fun _ _ => rfl)) pe_int) pe_int)) pe_int))
    (Evl.pss_cut (ps_if (pt_cmpR op_gt (pv 1) (pe_op op_pow pe_int pe_int) (nomark _))
      (pss_cons (ps_asg (pe_op op_mod (pe_op op_add (pe_op op_mul (pe_ix ix_list (pv 0) pe_int (fun _ _ => rfl)) pe_int) pe_int) pe_int) (pg_sub (pv 0) pe_int set_list))
      (pss_one (ps_set (i := 3) scTake.nd rfl (.inl rfl) (pe_op op_add (pe_op op_mul (pv 3) pe_int) (pe_ix ix_list (pv 0) pe_int (fun _ _ => rfl)))))) pss_nil)
    (pss_one (ps_ret (pe_op op_mod (pe_op op_fdiv (pv 3) pe_int) (pv 1))))))), ?_⟩
  refine ⟨_, rfl, p, _, 0, .int u, rfl, rfl, SqL.of hp, rfl, _, _, rfl, rfl, _, rfl, ite2 (fun c => ?_) (fun c => ?_)⟩
  · have c' : 0 < u := of_decide_eq_true c
    refine ⟨_, rfl, p, _, 0, .int u, rfl, rfl, SqL.of hp, rfl, _, rfl, u, n, rfl, rfl, n0, ?_⟩
    refine ⟨_, rfl, p, _, 0, .int u, rfl, rfl, SqL.of hp, rfl, _, rfl, u, n, rfl, rfl, wide_div (b := 1000) n0 n1 (by decide) (by decide), _, rfl, p, _, 0, 0, rfl, rfl, hp, rfl, _, rfl, ?_⟩
    refine q _ _ (Int.emod_nonneg _ (by omega)) (Int.emod_lt_of_pos _ n0) ⟨_, v, upd_same, ?_, ?_, v0, v1⟩ But.upd
    · exact Int.ediv_nonneg (by omega) (by omega)
    · have h1 : 0 ≤ u / n := Int.ediv_nonneg (by omega) (by omega)
      have h2 : u / n ≤ u := Int.ediv_le_self _ (by omega)
      omega
  · refine ⟨_, rfl, p, _, 1, .int v, rfl, rfl, SqL.of hp, rfl, v, _, rfl, rfl, .inl ⟨by omega, by omega⟩, _, _, rfl, rfl, _, _, rfl, rfl, (by show (0 : Int) < 2305843009213693951; decide), _, rfl, p, _, 1, 1, rfl, rfl, hp, rfl, ?_⟩
    have w0 := nx0 v
    have w1 := nx1 v
    have hx : (upd H p (.lst [.int u, .int (nx v)])) p = some (.lst [.int u, .int (nx v)]) := upd_same
    refine ⟨_, rfl, p, _, 1, .int (nx v), rfl, rfl, SqL.of hx, rfl, nx v, _, rfl, rfl, ⟨by decide, by decide⟩, _, rfl, p, _, 1, .int (nx v), rfl, rfl, SqL.of hx, rfl, nx v, _, rfl, rfl, (by show (0 : Int) < 65537; decide), _, _, rfl, rfl, _, _, rfl, rfl, .inr ⟨by omega, by omega⟩, _, _, rfl, rfl, (by show (0 : Int) < 2305843009213693921; decide), ?_⟩
    refine ⟨fun σ H' => ∃ m y : Int, σ = [some (.ref p), some (.int n), none, some (.int m)] ∧ H' = upd H p (.lst [.int u, .int y]) ∧ 0 ≤ y ∧ y < 2305843009213693951, ?_, ?_⟩
    · refine ⟨_, rfl, 10, 9, rfl, rfl, ⟨by decide, by decide, by decide⟩, _, _, rfl, rfl, _, rfl, ite2 (fun c => ?_) (fun c => ?_)⟩
      · refine ⟨_, rfl, p, _, 1, .int (nx v), rfl, rfl, SqL.of hx, rfl, nx v, _, rfl, rfl, .inl ⟨by omega, by omega⟩, _, _, rfl, rfl, _, _, rfl, rfl, (by show (0 : Int) < 2305843009213693951; decide), _, rfl, p, _, 1, 1, rfl, rfl, hx, rfl, ?_⟩
        have hy : (upd (upd H p (.lst [.int u, .int (nx v)])) p (.lst [.int u, .int (ny (nx v))])) p = some (.lst [.int u, .int (ny (nx v))]) := upd_same
        refine ⟨_, rfl, _, _, rfl, rfl, .inr ⟨by decide, by decide⟩, _, rfl, p, _, 1, .int (ny (nx v)), rfl, rfl, SqL.of hy, rfl, _, _, rfl, rfl, ?_⟩
        exact ⟨_, ny (nx v), rfl, upd_upd, ny0 _, ny1 _⟩
      · exact ⟨_, nx v, rfl, rfl, w0, w1⟩
    · rintro σ' H' ⟨m, y, rfl, rfl, y0, y1⟩
      refine ⟨_, rfl, m, 97, rfl, rfl, ⟨by decide, by decide⟩, _, rfl, _, n, rfl, rfl, n0, ?_⟩
      exact q _ _ (Int.emod_nonneg _ (by omega)) (Int.emod_lt_of_pos _ n0) ⟨u, y, upd_same, u0, u1, y0, y1⟩ But.upd
theorem ok_of {f fT : Addr} {fd fdT : FuncData} {k : Nat} (F : Fun K "_law_of" "_law_of" sOf f fd) (FT : Fun K "_law_take" "_law_take" sTake fT fdT) (bT : Binds K fdT ["_law_urn_here", "_law_below"] []) (gT : mg "_law_take" = some (.ref fT)) (ml : mg "len" = none) :
    FnOk P w K mg base CX0 (k + 2) f fd ["_law_urn_here", "_law_items"] (spOf K) := by
  have GT : FnOk P w K mg base CX0 (k + 1) fT fdT ["_law_urn_here", "_law_below"] spTake := ok_take FT
  refine F.ok scOf (fun vs H Q E h => ?_) (fun cdv A outer s H vs Q E hr h => ?_)
  · obtain ⟨p, r, xs, rfl, _⟩ := h
    rfl
  obtain ⟨p, r, xs, rfl, hU, nr, hr2, hx, hl, q⟩ := h
  refine ⟨_, pss_one (ps_ret (pe_ix ix_list (pv 1) (pe_call GT hr (by rfl) gT FT.kp bT .nil pass0 (pa_cons (pv 0) (pa_cons (pe_callB call_len_seq (by rfl) ml PySem.boot_len (pa_cons (pv 1) pa_nil)) pa_nil))) (fun _ _ => rfl))), ?_⟩
  have l0 : 0 < xs.length := List.length_pos_iff.mpr hx
  have l1 : (1000 : Nat) < wide := by decide +kernel
  refine ⟨_, rfl, _, rfl, _, rfl, r, xs, rfl, .inl hr2, p, _, rfl, hU, by omega, by omega, fun d H' d0 d1 hU' hb => ?_⟩
  obtain ⟨x, mx, hx2⟩ := at_any (xs := xs) d0 d1
  exact ⟨r, xs, d, x, rfl, rfl, hb.seq nr hr2, hx2, q x H' mx hU' hb⟩
end
end K02
set_option Elab.async false
set_option linter.all false
set_option maxRecDepth 100000
namespace K02
open PySem PySem.Spec PyProof.Rows L2 Lj
section
variable {P : Program} {w : World} {K : PySem.W.Frag} {mg : Str → Option Value} {base : Heap}
def spInv : Sp := fun vs H Q _ => ∃ p a : Int, vs = [.int p, .int a] ∧ 1 < p ∧ p ≤ 10007 ∧ 0 < a ∧ a < p ∧ Cop p a ∧ ∀ r : Int, 0 < r → r < p → r * a % p = 1 → Q (.int r) H
theorem ok_inv {f : Addr} {fd : FuncData} {k : Nat} (F : Fun K "inverse" "inverse" sInv f fd) : FnOk P w K mg base CX0 (k + 1) f fd ["p", "a"] spInv := by
  refine F.ok scInv (fun vs H Q E h => ?_) (fun cdv A outer s H vs Q E hr h => ?_)
  · obtain ⟨p, a, rfl, _⟩ := h
    rfl
  obtain ⟨p, a, rfl, p1, p2, a0, a1, cop, q⟩ := h
  refine ⟨_, pss_cons (ps_par (i := 2) (j := 3) (by rfl) scInv.nd rfl rfl (by decide) rfl rfl (pa_cons (pv 0) (pa_cons pe_int pa_nil)) (by rfl))
    (pss_cons (ps_par (i := 4) (j := 5) (by rfl) scInv.nd rfl rfl (by decide) rfl rfl (pa_cons (pv 1) (pa_cons pe_int pa_nil)) (by rfl))
    (pss_cons (ps_while PassesOwn.never (pt_cmpR op_gt (pv 4) pe_int (nomark _))
      (pss_cons (ps_set (i := 6) scInv.nd rfl (.inl rfl) (pe_op op_fdiv (pv 2) (pv 4)))
      (pss_cons (ps_par (i := 2) (j := 4) (by rfl) scInv.nd rfl rfl (by decide) rfl rfl (pa_cons (pv 4) (pa_cons (pe_op op_sub (pv 2) (pe_op op_mul (pv 6) (pv 4))) pa_nil)) (by rfl))
      (pss_one (ps_par (i := 3) (j := 5) (by rfl) scInv.nd rfl rfl (by decide) rfl rfl (pa_cons (pv 5) (pa_cons (pe_op op_sub (pv 3) (pe_op op_mul (pv 6) (pv 5))) pa_nil)) (by rfl))))))
    (pss_one (ps_ret (pe_op op_mod (pv 5) (pv 0)))))), ?_⟩
  refine ⟨_, rfl, _, _, rfl, _, rfl, _, _, rfl, ?_⟩
  refine ⟨fun m σ H' => ∃ (hi hs lo ls : Int) (y : Option V), σ = [some (.int p), some (.int a), some (.int hi), some (.int hs), some (.int lo), some (.int ls), y] ∧ H' = H ∧ EI p a hi hs lo ls ∧ m = lo.toNat,
    ⟨_, p, 0, a, 1, none, rfl, rfl, EI.start a0 a1 cop, rfl⟩, ?_⟩
  rintro m σ H' ⟨hi, hs, lo, ls, y, rfl, rfl, e, rfl⟩
  refine ⟨_, rfl, lo, 1, rfl, rfl, _, rfl, ite2 (fun c => ?_) (fun c => ?_)⟩
  · have c' : 1 < lo := of_decide_eq_true c
    obtain ⟨e2, lt⟩ := e.step c'
    have l1 := e.lop
    have l2 := e.hip
    have l3 := e.hi1
    have q0 : 0 ≤ hi / lo := Int.ediv_nonneg (by omega) (by omega)
    have q1 : hi / lo ≤ hi := Int.ediv_le_self _ (by omega)
    refine ⟨fun σ' H2 => ∃ y, σ' = [some (.int p), some (.int a), some (.int lo), some (.int ls), some (.int (hi - hi / lo * lo)), some (.int (hs - hi / lo * ls)), y] ∧ H2 = H', ?_, ?_⟩
    · rintro σ' H2 ⟨y2, rfl, rfl⟩
      exact ⟨_, lt, _, _, _, _, y2, rfl, rfl, e2, rfl⟩
    · refine ⟨_, rfl, _, rfl, hi, lo, rfl, rfl, ⟨by omega, by omega⟩, ?_⟩
      refine ⟨_, rfl, _, rfl, _, rfl, _, rfl, _, _, rfl, rfl, .inl ⟨by omega, by omega⟩, _, _, rfl, rfl, _, _, rfl, ?_⟩
      refine ⟨_, rfl, _, rfl, _, rfl, _, rfl, _, _, rfl, rfl, .inl ⟨by omega, by omega⟩, _, _, rfl, rfl, _, _, rfl, ?_⟩
      exact ⟨_, rfl, rfl⟩
  · have c' : ¬ 1 < lo := of_decide_eq_false (Bool.eq_false_iff.mpr c)
    obtain ⟨r0, r1, r2⟩ := e.done c' p1
    exact ⟨_, rfl, _, rfl, _, _, rfl, rfl, (by show (0 : Int) < p; omega), q _ r0 r1 r2⟩
/-! ### the law's own -/
def spPrime : Sp := fun vs H Q _ => ∃ p : Addr, vs = [.ref p] ∧ Urn H p ∧ ∀ (q : Int) H', q ∈ primes.map (fun n : Nat => (n : Int)) → Urn H' p → But p H H' → Q (.int q) H'
theorem ok_prime {f fO : Addr} {fd fdO : FuncData} {k : Nat} (F : Fun K "_law_prime" "_law_prime" sPrime f fd) (GO : FnOk P w K mg base CX0 k fO fdO ["_law_urn_here", "_law_items"] (spOf K)) (kO : PySem.W.keepIn K (.ref fO) = true) (bO : Binds K fdO ["_law_urn_here", "_law_items"] []) (gO : mg "_law_of" = some (.ref fO)) :
    FnOk P w K mg base CX0 (k + 1) f fd ["_law_urn_here"] spPrime := by
  refine F.ok scPrime (fun vs H Q E h => ?_) (fun cdv A outer s H vs Q E hr h => ?_)
  · obtain ⟨p, rfl, _⟩ := h
    rfl
  obtain ⟨p, rfl, hU, q⟩ := h
  refine ⟨_, pss_one (ps_ret (pe_call GO hr (by rfl) gO kO bO .nil pass0 (pa_cons (pv 0) (pa_cons (pe_lst (pa_cons pe_int (pa_cons pe_int (pa_cons pe_int (pa_cons pe_int (pa_cons pe_int (pa_cons pe_int (pa_cons pe_int (pa_cons pe_int (pa_cons pe_int (pa_cons pe_int (pa_cons pe_int (pa_cons pe_int (pa_cons pe_int pa_nil)))))))))))))) pa_nil)))), ?_⟩
  refine ⟨_, rfl, (by show 13 ≤ sizeLine; decide), fun l nl => ?_⟩
  refine ⟨p, l, _, rfl, hU.same (same_new nl), hU.ne nl, SqL.of upd_same, (by intro z; cases z), (by show 13 ≤ 1000; decide), fun x H' hx hU' hb => ?_⟩
  have hx2 : x ∈ (primes.map (fun n : Nat => (n : Int))).map V.int := hx
  obtain ⟨z, hz, rfl⟩ := List.mem_map.mp hx2
  exact q z H' hz hU' (But.trans (But.new nl) hb)
def spRight : Sp := fun vs H Q _ => ∃ p : Addr, vs = [.ref p] ∧ Urn H p ∧ ∀ H', Urn H' p → But p H H' → Q (.bl true) H'
theorem kbinds_inv {f : Addr} {fd : FuncData} (F : Fun K "inverse" "inverse" sInv f fd) : KBinds K fd ["p", "a"] ["p", "a"] (fun us ws => if us.isEmpty then ws else []) (fun us ws => if us.isEmpty then ws else []) := by
  obtain ⟨oc, od, kV, doc, pm, an, cdv, ct, osl, rfl, lk, hcd⟩ := F.ex
  refine ⟨fun s us ws _ hl => ?_, fun {vs us zs ws} r rz => ?_⟩
  · cases us with
    | cons u r =>
      rw [show (u :: r).isEmpty = false from rfl, if_neg Bool.false_ne_true] at hl
      cases hl
    | nil =>
      match ws, hl with
      | [_, _], _ => exact .of_eq rfl
  · cases r with
    | nil => exact rz
    | cons _ _ => exact .nil
theorem rg_mem {a b : Int} {x : V} (h : x ∈ rgV a b) : ∃ c : Int, x = .int c ∧ a ≤ c ∧ c < b := by
  unfold rgV at h
  obtain ⟨i, hi, rfl⟩ := List.mem_map.mp h
  have := List.mem_range.mp hi
  exact ⟨_, rfl, by omega, by omega⟩
/-- the numbers that are asked -/
def Some1 (q : Int) (xs : List V) : Prop := xs ≠ [] ∧ xs.length ≤ 1000 ∧ ∀ x ∈ xs, ∃ c : Int, x = .int c ∧ 0 < c ∧ c < q
theorem ok_right {f fP fT fI : Addr} {fd fdP fdT fdI : FuncData} {k : Nat} (F : Fun K "_law_right" "_law_right" sRight f fd)
    (GP : FnOk P w K mg base CX0 (k + 3) fP fdP ["_law_urn_here"] spPrime) (kP : PySem.W.keepIn K (.ref fP) = true) (bP : Binds K fdP ["_law_urn_here"] []) (gP : mg "_law_prime" = some (.ref fP))
    (FT : Fun K "_law_take" "_law_take" sTake fT fdT) (bT : Binds K fdT ["_law_urn_here", "_law_below"] []) (gT : mg "_law_take" = some (.ref fT))
    (FI : Fun K "inverse" "inverse" sInv fI fdI) (bI : Binds K fdI ["p", "a"] []) (gI : mg "inverse" = some (.ref fI))
    (ml : mg "len" = none) (mli : mg "list" = none) (mr : mg "range" = none) (mis : mg "isinstance" = none) (mb : mg "bool" = none) (mi : mg "int" = none) :
    FnOk P w K mg base CX0 (k + 4) f fd ["_law_urn_here"] spRight := by
  have GT : FnOk P w K mg base CX0 (k + 3) fT fdT ["_law_urn_here", "_law_below"] spTake := ok_take FT
  have GI : FnOk P w K mg base CX0 (k + 3) fI fdI ["p", "a"] spInv := ok_inv FI
  have kI := kbinds_inv FI
  refine F.ok scRight (fun vs H Q E h => ?_) (fun cdv A outer s H vs Q E hr h => ?_)
  · obtain ⟨p, rfl, _⟩ := h
    rfl
  obtain ⟨p, rfl, hU, q⟩ := h
  refine ⟨_, pss_cons (ps_set (i := 1) scRight.nd rfl (.inr rfl) (pe_call GP hr (by rfl) gP kP bP .nil pass0 (pa_cons (pv 0) pa_nil)))
    (pss_cons (ps_set (i := 2) scRight.nd rfl (.inl rfl) (pe_listRg (by rfl) (by rfl) mli (prg_2 (by rfl) mr pe_int (pv 1))))
    (Evl.pss_cut (ps_if (pt_cmpR op_gt (pv 1) pe_int (nomark _))
      (pss_one (ps_set (i := 2) scRight.nd rfl (.inl rfl) (pe_op op_cat (pe_lst (pa_cons pe_int (pa_cons pe_int (pa_cons (pe_op op_sub (pv 1) pe_int) (pa_cons (pe_op op_sub (pv 1) pe_int) pa_nil)))))
        (pe_lc (own := [("_law_turn", 6)]) (g := gName 6) (by rfl) scRight.nd (pi_range1 (by rfl) mr (pa_cons pe_int pa_nil)) (blkOk_by (own := [("_law_turn", 6)]) (N := ["_law_urn_here", "_law_q", "_law_some", "_law_c", "_law_found", "_law_b", "_law_turn"]) (sc := defScope sRight) (by decide +kernel))
          (fun _ _ _ _ _ => pg_name (i := 6) scRight.nd rfl (Or.inl rfl)) (fun _ _ _ _ _ => pts_nil) (fun _ _ _ _ _ => pe_op op_add pe_int (pe_call GT hr (by rfl) gT FT.kp bT .nil pass0 (pa_cons (pv 0) (pa_cons (pe_op op_sub (pv 1) pe_int) pa_nil)))))))) pss_nil)
    (pss_cons (ps_for PassesOwn.never rfl (pi_list (pv 2)) (pg_name (i := 3) scRight.nd rfl (.inl rfl))
      (pss_cons (ps_par (i := 4) (j := 5) (by rfl) scRight.nd rfl rfl (by decide) rfl rfl (pa_cons (pe_call GI hr (by rfl) gI FI.kp bI .nil pass0 (pa_cons (pv 1) (pa_cons (pv 3) pa_nil))) (pa_cons (pe_ix ix_list (pv 2) (pe_call GT hr (by rfl) gT FT.kp bT .nil pass0 (pa_cons (pv 0) (pa_cons (pe_callB call_len_seq (by rfl) ml PySem.boot_len (pa_cons (pv 2) pa_nil)) pa_nil))) (fun _ _ => rfl)) pa_nil)) (by rfl))
      (pss_cons (ps_if (PW.pt (pw_or (pt_val (pe_callB call_isi (by rfl) mis (by decide +kernel) (pa_cons (pv 4) (pa_cons (pe_bltn (v := .ty "bool") (by rfl) mb (by decide +kernel) rfl) pa_nil))))
          (pw_or (pt_not (pt_val (pe_callB call_isi (by rfl) mis (by decide +kernel) (pa_cons (pv 4) (pa_cons (pe_bltn (v := .ty "int") (by rfl) mi (by decide +kernel) rfl) pa_nil)))))
          (pw_or (pt_not (pt_chain op_lt op_lt pe_int (pv 4) (pv 1)))
          (pw_or1 (pt_cmpR op_ne (pe_op op_mod (pe_op op_mul (pv 4) (pv 3)) (pv 1)) pe_int (nomark _)))))))
        (pss_one (ps_ret pe_bl)) pss_nil)
      (pss_one (ps_if (PW.pt (pw_or (pt_cmpR op_ne (pe_callK0 GI hr (by rfl) gI FI.kp kI pass0 (pk_cons (pv 1) (pk_cons (pv 4) pk_nil))) (pv 3) (nomark _))
          (pw_or1 (pt_cmpR op_ne (pe_call GI hr (by rfl) gI FI.kp bI .nil pass0 (pa_cons (pv 1) (pa_cons (pe_op op_mod (pe_op op_mul (pv 3) (pv 5)) (pv 1)) pa_nil)))
            (pe_op op_mod (pe_op op_mul (pv 4) (pe_call GI hr (by rfl) gI FI.kp bI .nil pass0 (pa_cons (pv 1) (pa_cons (pv 5) pa_nil)))) (pv 1)) (nomark _)))))
        (pss_one (ps_ret pe_bl)) pss_nil)))))
    (pss_one (ps_ret pe_bl))))), ?_⟩
  -- q, some
  refine ⟨_, rfl, p, rfl, hU, fun z H1 hz hU1 hb1 => ?_⟩
  obtain ⟨z1, z2⟩ := prime_bd hz
  refine ⟨_, rfl, 1, z, rfl, rfl, RgOk.of_le (by decide) (by omega) (by decide) (by omega), fun l nl => ?_⟩
  have nlp : l ≠ p := hU1.ne nl
  refine ⟨fun σ H' => ∃ (l : Addr) (xs : List V), σ = [some (.ref p), some (.int z), some (.ref l), none, none, none, none] ∧ l ≠ p ∧ Urn H' p ∧ But p H H' ∧ H' l = some (.lst xs) ∧ Some1 z xs, ?_, ?_⟩
  · refine ⟨_, rfl, z, 251, rfl, rfl, _, rfl, ite2 (fun c => ?_) (fun c => ?_)⟩
    · have c' : 251 < z := of_decide_eq_true c
      refine ⟨_, rfl, z, 1, rfl, rfl, _, rfl, z, 2, rfl, rfl, (by show 4 ≤ sizeLine; decide), fun a na => ?_⟩
      have nap : a ≠ p := (hU1.same (same_new nl)).ne na
      refine ⟨60, rfl, by decide, by decide, fun D nD => ?_⟩
      have nDp : D ≠ p := ((hU1.same (same_new nl)).same (same_new na)).ne nD
      have naD : a ≠ D := fun e => by
        rw [← e, upd_same] at nD
        cases nD
      have nHD : H D = none := ((hU1.same (same_new nl)).same (same_new na)).free ((hb1.trans (But.new nl)).trans (But.new na)) nD
      refine lc_range (lo := 0) (n := 60) (fun i H' => ∃ ys : List V, H' D = some (.lst ys) ∧ ys.length = i ∧ (∀ y ∈ ys, ∃ c : Int, y = .int c ∧ 0 < c ∧ c < z) ∧ Urn H' p ∧ H' a = some (.lst [.int 1, .int 2, .int (z - 1), .int (z - 2)]) ∧ But p H H') ?_ ?_ ?_
      · refine ⟨[], upd_same, rfl, (fun y hy => absurd hy List.not_mem_nil), ((hU1.same (same_new nl)).same (same_new na)).same (same_new nD), ?_, ((hb1.trans (But.new nl)).trans (But.new na)).trans (But.new nD)⟩
        rw [upd_ne naD, upd_same]
      · rintro i H' hi ⟨ys, e1, e2, e3, e4, e5, e6⟩
        refine ⟨rfl, ?_⟩
        refine ⟨_, rfl, _, rfl, z, 1, rfl, rfl, p, _, rfl, e4, by omega, ?_, fun d H2 d0 d1 hU2 hb2 => ?_⟩
        · have : (10007 : Nat) < wide := by decide +kernel
          omega
        · refine ⟨1, d, rfl, rfl, ys, hb2 _ _ nDp e1, small1000 (by omega), ?_⟩
          refine ⟨_, upd_same, by rw [List.length_append, e2]; rfl, fun y hy => ?_, hU2.but (q := D) But.upd nDp.symm, ?_, fun b o hb ho => ?_⟩
          · rcases List.mem_append.mp hy with hy | hy
            · exact e3 y hy
            · rw [List.mem_singleton.mp hy]
              exact ⟨1 + d, rfl, by omega, by omega⟩
          · rw [upd_ne naD]
            exact hb2 _ _ nap e5
          · have nb : b ≠ D := ne_of_none ho nHD
            rw [upd_ne nb]
            exact hb2 _ _ hb (e6 _ _ hb ho)
      · rintro H' ⟨ys, e1, e2, e3, e4, e5, e6⟩
        refine ⟨a, D, _, _, rfl, rfl, e5, e1, ?_, fun r nr => ?_⟩
        · rw [e2]
          exact small (by show 4 + 60 ≤ 1000; decide)
        · refine ⟨r, _, rfl, e4.ne nr, e4.same (same_new nr), e6.trans (But.new nr), upd_same, ?_, ?_, fun x hx => ?_⟩
          · intro z
            cases z
          · rw [List.length_append, e2]
            show 4 + 60 ≤ 1000
            decide
          · rcases List.mem_append.mp hx with hx | hx
            · simp only [List.mem_cons, List.not_mem_nil, or_false] at hx
              rcases hx with rfl | rfl | rfl | rfl
              · exact ⟨1, rfl, by omega, by omega⟩
              · exact ⟨2, rfl, by omega, by omega⟩
              · exact ⟨z - 1, rfl, by omega, by omega⟩
              · exact ⟨z - 2, rfl, by omega, by omega⟩
            · exact e3 x hx
    · have c' : ¬ 251 < z := of_decide_eq_false (Bool.eq_false_iff.mpr c)
      refine ⟨l, rgV 1 z, rfl, nlp, hU1.same (same_new nl), hb1.trans (But.new nl), upd_same, ?_, ?_, fun x hx => ?_⟩
      · intro e
        have := rgV_length 1 z
        rw [e] at this
        simp at this
        omega
      · rw [rgV_length]
        omega
      · obtain ⟨c, e, c0, c1⟩ := rg_mem hx
        exact ⟨c, e, by omega, c1⟩
  · rintro σ' H' ⟨l, xs, rfl, nl, hU', hb', hl, hne, hle, hxs⟩
    refine ⟨_, rfl, l, rfl, ⟨_, SqL.of hl⟩, for_list (xs := xs) (fun i σ H' => ∃ y3 y4 y5, σ = [some (.ref p), some (.int z), some (.ref l), y3, y4, y5, none] ∧ Urn H' p ∧ But p H H' ∧ H' l = some (.lst xs)) ⟨_, _, _, rfl, hU', hb', hl⟩ ?_ ?_ ?_⟩
    · rintro i σ H2 _ ⟨y3, y4, y5, rfl, _, _, h4⟩
      exact SqL.of h4
    · rintro i x σ H2 hx ⟨y3, y4, y5, rfl, u2, b2, h2⟩
      obtain ⟨c, rfl, c0, c1⟩ := hxs x (List.mem_of_getElem? hx)
      refine ⟨_, rfl, _, rfl, z, c, rfl, z1, z2, c0, c1, cop_prime hz c0 c1, fun r r0 r1 r2 => ?_⟩
      have l0 : 0 < xs.length := List.length_pos_iff.mpr hne
      have l1 : (1000 : Nat) < wide := by decide +kernel
      refine ⟨_, rfl, _, rfl, _, rfl, l, xs, rfl, .inl (SqL.of h2), p, _, rfl, u2, by omega, by omega, fun d H3 d0 d1 u3 b3 => ?_⟩
      obtain ⟨y, my, hy⟩ := at_any (xs := xs) d0 d1
      obtain ⟨b, rfl, b0, b1⟩ := hxs y my
      have h3 := b3 _ _ nl h2
      refine ⟨l, xs, d, _, rfl, rfl, SqL.of h3, hy, _, _, rfl, ?_⟩
      -- the first test
      refine ⟨_, rfl, _, _, _, _, false, rfl, .ty _, .base (.int r), kit_ty (by decide +kernel), _, rfl, iteF ?_⟩
      refine ⟨_, rfl, _, _, _, _, true, rfl, .ty _, .base (.int r), kit_ty (by decide +kernel), _, rfl, iteF ?_⟩
      refine ⟨_, rfl, 0, r, rfl, rfl, _, rfl, iteP r0 ⟨_, rfl, r, z, rfl, rfl, true, (by show V.bl (decide (r < z)) = V.bl true; rw [decide_eq_true r1]), iteF ?_⟩⟩
      refine ⟨_, rfl, _, rfl, r, c, rfl, rfl, .inl ⟨by omega, by omega⟩, _, rfl, _, z, rfl, rfl, (by show (0 : Int) < z; omega), rfl, _, rfl, iteNS (congrArg V.int r2) ?_⟩
      -- the second test
      have r2' : c * r % z = 1 := by rw [Int.mul_comm]; exact r2
      refine ⟨_, rfl, _, rfl, z, r, rfl, z1, z2, r0, r1, cop_of_inv r2', fun r' s0 s1 s2 => ?_⟩
      have e1 : r' = c := inv_uniq s0 s1 c0 c1 s2 r2'
      refine ⟨_, rfl, rfl, _, rfl, ?_⟩
      rw [show (!decide (V.int r' = V.int c)) = false by rw [e1, decide_eq_true rfl]; rfl]
      refine iteF ?_
      obtain ⟨m0, m1, mc⟩ := mul_cop z1 r2 b0 b1 (cop_prime hz b0 b1)
      refine ⟨_, rfl, _, rfl, _, rfl, c, b, rfl, rfl, .inl ⟨by omega, by omega⟩, _, rfl, _, z, rfl, rfl, (by show (0 : Int) < z; omega), z, c * b % z, rfl, z1, z2, m0, m1, mc, fun x x0 x1 x2 => ?_⟩
      refine ⟨_, rfl, _, rfl, _, rfl, z, b, rfl, z1, z2, b0, b1, cop_prime hz b0 b1, fun y y0 y1 y2 => ?_⟩
      obtain ⟨i0, i1, i2, _, _⟩ := inv_mul z1 r2 y2
      have ex : x = r * y % z := inv_uniq x0 x1 i1 i2 x2 i0
      refine ⟨r, y, rfl, rfl, .inl ⟨by omega, by omega⟩, _, rfl, _, z, rfl, rfl, (by show (0 : Int) < z; omega), rfl, _, rfl, iteNS (congrArg V.int ex) ?_⟩
      exact ⟨_, _, _, rfl, u3, b2.trans b3, h3⟩
    · rintro σ H2 ⟨y3, y4, y5, rfl, u2, b2, h2⟩
      exact q H2 u2 b2
/-! ### the law -/
def spLaw (K : PySem.W.Frag) : Sp := fun vs H Q _ => ∃ (a : Addr) (ns : List Int), vs = [.ref a] ∧ SqL K H a (ns.map V.int) ∧ ns.length ≤ 63 ∧ ∀ H', Q (.bl true) H'
theorem ok_law {f fR fU : Addr} {fd fdR fdU : FuncData} {k : Nat} (F : Fun K "law" "law" sLaw f fd)
    (GR : FnOk P w K mg base CX0 k fR fdR ["_law_urn_here"] spRight) (kR : PySem.W.keepIn K (.ref fR) = true) (bR : Binds K fdR ["_law_urn_here"] []) (gR : mg "_law_right" = some (.ref fR))
    (GU : FnOk P w K mg base CX0 k fU fdU ["_law_script", "_law_k"] (spUrn K)) (kU : PySem.W.keepIn K (.ref fU) = true) (bU : Binds K fdU ["_law_script", "_law_k"] []) (gU : mg "_law_urn" = some (.ref fU))
    (ml : mg "len" = none) (mr : mg "range" = none) (mx : mg "max" = none) (mn : mg "min" = none) (ma : mg "all" = none) :
    FnOk P w K mg base CX0 (k + 1) f fd ["_law_script"] (spLaw K) := by
  refine F.ok scLaw (fun vs H Q E h => ?_) (fun cdv A outer s H vs Q E hr h => ?_)
  · obtain ⟨a, ns, rfl, _⟩ := h
    rfl
  obtain ⟨a, ns, rfl, hS, hl, q⟩ := h
  refine ⟨_, pss_cons (ps_for PassesOwn.never rfl (pi_range1 (by rfl) mr (pa_cons (pe_callB (call_max2 rfl) (by rfl) mx (by decide +kernel) (pa_cons pe_int (pa_cons (pe_callB (call_min2 rfl) (by rfl) mn (by decide +kernel) (pa_cons pe_int (pa_cons (pe_callB call_len_seq (by rfl) ml PySem.boot_len (pa_cons (pv 0) pa_nil)) pa_nil))) pa_nil))) pa_nil)) (pg_name (i := 1) scLaw.nd rfl (.inl rfl))
      (pss_cons (ps_set (i := 2) scLaw.nd rfl (.inr rfl) (pe_call GU hr (by rfl) gU kU bU .nil pass0 (pa_cons (pv 0) (pa_cons (pv 1) pa_nil))))
      (pss_one (ps_if (pt_not (pt_val (pe_callB (cr_all rfl) (by rfl) ma (by decide +kernel) (pa_cons
        (pe_lc (own := [("_law_turn", 3)]) (g := gName 3) (by rfl) scLaw.nd (pi_range1 (by rfl) mr (pa_cons pe_int pa_nil)) (blkOk_by (own := [("_law_turn", 3)]) (N := ["_law_script", "_law_k", "_law_urn_here", "_law_turn"]) (sc := defScope sLaw) (by decide +kernel))
          (fun _ _ _ _ _ => pg_name (i := 3) scLaw.nd rfl (Or.inl rfl)) (fun _ _ _ _ _ => pts_nil) (fun _ _ _ _ _ => pe_call GR hr (by rfl) gR kR bR .nil pass0 (pa_cons (pv 2) pa_nil))) pa_nil))))
        (pss_one (ps_ret pe_bl)) pss_nil))))
    (pss_one (ps_ret pe_bl)), ?_⟩
  have hlen : (ns.map V.int).length = ns.length := List.length_map _
  refine ⟨_, rfl, a, _, rfl, .inl hS, 3, _, rfl, 1, _, rfl, ?_⟩
  rw [hlen]
  obtain ⟨m, hm, hm3⟩ : ∃ m : Nat, (if (if (ns.length : Int) < 3 then (ns.length : Int) else 3) > 1 then (if (ns.length : Int) < 3 then (ns.length : Int) else 3) else 1) = (m : Int) ∧ m ≤ 3 := by
    refine ⟨(if (if (ns.length : Int) < 3 then (ns.length : Int) else 3) > 1 then (if (ns.length : Int) < 3 then (ns.length : Int) else 3) else 1).toNat, ?_, ?_⟩
    · split <;> split <;> omega
    · split <;> split <;> omega
  refine ⟨_, rfl, ?_, ?_, ?_⟩
  · rw [hm]; omega
  · rw [hm]; omega
  rw [hm]
  refine for_range (lo := 0) (n := m) (fun i σ H' => ∃ y1 y2, σ = [some (.ref a), y1, y2, none] ∧ Same H H') ⟨_, _, rfl, Same.refl _⟩ ?_ ?_
  · rintro i σ H1 hi ⟨y1, y2, rfl, sm⟩
    refine ⟨_, rfl, _, rfl, a, ns, _, rfl, sm.seq hS, by omega, by omega, fun H2 p s2 np hU => ?_⟩
    refine ⟨2, rfl, by decide, by decide, fun D nD => ?_⟩
    have nDp : D ≠ p := hU.ne nD
    have nHD : H D = none := sm.free (s2.free nD)
    have nHp : H p = none := sm.free np
    refine lc_range (lo := 0) (n := 2) (fun i H' => H' D = some (.lst ((List.replicate i true).map V.bl)) ∧ Urn H' p ∧ Same H H') ?_ ?_ ?_
    · exact ⟨upd_same, hU.same (same_new nD), (sm.trans s2).trans (same_new nD)⟩
    · rintro j H3 hj ⟨e1, e2, e3⟩
      refine ⟨rfl, ?_⟩
      refine ⟨_, rfl, p, rfl, e2, fun H4 u4 b4 => ?_⟩
      refine ⟨_, b4 _ _ nDp e1, ?_, upd_same.trans ?_, u4.but (q := D) But.upd nDp.symm, fun b o ho => ?_⟩
      · rw [List.length_map, List.length_replicate]
        exact small1000 (by omega)
      · rw [List.replicate_succ', List.map_append]
        rfl
      · have n1 : b ≠ D := ne_of_none ho nHD
        have n2 : b ≠ p := ne_of_none ho nHp
        rw [upd_ne n1]
        exact b4 _ _ n2 (e3 _ _ ho)
    · rintro H3 ⟨e1, e2, e3⟩
      refine ⟨D, _, rfl, SqL.of e1, _, rfl, iteF ?_⟩
      exact ⟨_, _, rfl, e3⟩
  · rintro σ H1 ⟨y1, y2, rfl, sm⟩
    exact q _
end
theorem all_mk {l : PySem.W.OpenLaw} {w : World} {K : PySem.W.Frag} {h : Heap} {mg : Str → Option Value} {fa f0 f1 f2 f3 f4 f5 f6 : Addr} (X : K.In h) (G : h.Ns mainGlobals mg) (hfa : mg "law" = some (.ref fa))
    {od0 an0 od1 an1 od2 an2 od3 an3 od4 an4 od5 an5 od6 an6 : Option Addr} {sl0 sl1 sl2 sl3 sl4 sl5 sl6 : Array (Option Value)} {oc0 kV0 dc0 pm0 cd0 ct0 oc1 kV1 dc1 pm1 cd1 ct1 oc2 kV2 dc2 pm2 cd2 ct2 oc3 kV3 dc3 pm3 cd3 ct3 oc4 kV4 dc4 pm4 cd4 ct4 oc5 kV5 dc5 pm5 cd5 ct5 oc6 kV6 dc6 pm6 cd6 ct6 : Value}
    (a0 : PySem.W.nsIn K mainGlobals "_law_urn" = some (some (.ref f0))) (l0 : K.lookup f0 = some ⟨oc0, od0, .func (PySem.W.fnOf "_law_urn" "_law_urn" (defArgs sUrn) (defBody sUrn) (defScope sUrn) .none kV0 dc0 pm0 an0 cd0 ct0), sl0⟩) (c0 : PySem.W.codeIn K cd0 "_law_urn" = true) (k0 : PySem.W.keepIn K (.ref f0) = true)
    (a1 : PySem.W.nsIn K mainGlobals "_law_take" = some (some (.ref f1))) (l1 : K.lookup f1 = some ⟨oc1, od1, .func (PySem.W.fnOf "_law_take" "_law_take" (defArgs sTake) (defBody sTake) (defScope sTake) .none kV1 dc1 pm1 an1 cd1 ct1), sl1⟩) (c1 : PySem.W.codeIn K cd1 "_law_take" = true) (k1 : PySem.W.keepIn K (.ref f1) = true)
    (a2 : PySem.W.nsIn K mainGlobals "_law_of" = some (some (.ref f2))) (l2 : K.lookup f2 = some ⟨oc2, od2, .func (PySem.W.fnOf "_law_of" "_law_of" (defArgs sOf) (defBody sOf) (defScope sOf) .none kV2 dc2 pm2 an2 cd2 ct2), sl2⟩) (c2 : PySem.W.codeIn K cd2 "_law_of" = true) (k2 : PySem.W.keepIn K (.ref f2) = true)
    (a3 : PySem.W.nsIn K mainGlobals "_law_prime" = some (some (.ref f3))) (l3 : K.lookup f3 = some ⟨oc3, od3, .func (PySem.W.fnOf "_law_prime" "_law_prime" (defArgs sPrime) (defBody sPrime) (defScope sPrime) .none kV3 dc3 pm3 an3 cd3 ct3), sl3⟩) (c3 : PySem.W.codeIn K cd3 "_law_prime" = true) (k3 : PySem.W.keepIn K (.ref f3) = true)
    (a4 : PySem.W.nsIn K mainGlobals "_law_right" = some (some (.ref f4))) (l4 : K.lookup f4 = some ⟨oc4, od4, .func (PySem.W.fnOf "_law_right" "_law_right" (defArgs sRight) (defBody sRight) (defScope sRight) .none kV4 dc4 pm4 an4 cd4 ct4), sl4⟩) (c4 : PySem.W.codeIn K cd4 "_law_right" = true) (k4 : PySem.W.keepIn K (.ref f4) = true)
    (a5 : PySem.W.nsIn K mainGlobals "law" = some (some (.ref f5))) (l5 : K.lookup f5 = some ⟨oc5, od5, .func (PySem.W.fnOf "law" "law" (defArgs sLaw) (defBody sLaw) (defScope sLaw) .none kV5 dc5 pm5 an5 cd5 ct5), sl5⟩) (c5 : PySem.W.codeIn K cd5 "law" = true) (k5 : PySem.W.keepIn K (.ref f5) = true)
    (a6 : PySem.W.nsIn K mainGlobals "inverse" = some (some (.ref f6))) (l6 : K.lookup f6 = some ⟨oc6, od6, .func (PySem.W.fnOf "inverse" "inverse" (defArgs sInv) (defBody sInv) (defScope sInv) .none kV6 dc6 pm6 an6 cd6 ct6), sl6⟩) (c6 : PySem.W.codeIn K cd6 "inverse" = true) (k6 : PySem.W.keepIn K (.ref f6) = true)
    (z0 : PySem.W.nsIn K mainGlobals "len" = some none)
    (z1 : PySem.W.nsIn K mainGlobals "abs" = some none)
    (z2 : PySem.W.nsIn K mainGlobals "int" = some none)
    (z3 : PySem.W.nsIn K mainGlobals "list" = some none)
    (z4 : PySem.W.nsIn K mainGlobals "range" = some none)
    (z5 : PySem.W.nsIn K mainGlobals "isinstance" = some none)
    (z6 : PySem.W.nsIn K mainGlobals "bool" = some none)
    (z7 : PySem.W.nsIn K mainGlobals "max" = some none)
    (z8 : PySem.W.nsIn K mainGlobals "min" = some none)
    (z9 : PySem.W.nsIn K mainGlobals "all" = some none)
    : ∃ fd : FuncData, (∀ (s : Shared) (v : Value), BindsTo s fd ⟨[v], []⟩ [("_law_script", v)]) ∧ ∀ base : Heap, K.In base → base.Ns mainGlobals mg → FnOk l.prog w K mg base CX0 7 fa fd ["_law_script"] (spLaw K) := by
  have e := hfa.symm.trans (PySem.W.mg_of X G a5)
  cases e
  have FUrn := fun_mk (st := sUrn) l0 c0 k0
  have bUrn := FUrn.binds (ps := ["_law_script", "_law_k"]) fun _ _ _ _ _ _ us hl => match us, hl with | [_, _], _ => rfl
  have gUrn := PySem.W.mg_of X G a0
  have FTake := fun_mk (st := sTake) l1 c1 k1
  have bTake := FTake.binds (ps := ["_law_urn_here", "_law_below"]) fun _ _ _ _ _ _ us hl => match us, hl with | [_, _], _ => rfl
  have gTake := PySem.W.mg_of X G a1
  have FOf := fun_mk (st := sOf) l2 c2 k2
  have bOf := FOf.binds (ps := ["_law_urn_here", "_law_items"]) fun _ _ _ _ _ _ us hl => match us, hl with | [_, _], _ => rfl
  have gOf := PySem.W.mg_of X G a2
  have FPrime := fun_mk (st := sPrime) l3 c3 k3
  have bPrime := FPrime.binds (ps := ["_law_urn_here"]) fun _ _ _ _ _ _ us hl => match us, hl with | [_], _ => rfl
  have gPrime := PySem.W.mg_of X G a3
  have FRight := fun_mk (st := sRight) l4 c4 k4
  have bRight := FRight.binds (ps := ["_law_urn_here"]) fun _ _ _ _ _ _ us hl => match us, hl with | [_], _ => rfl
  have gRight := PySem.W.mg_of X G a4
  have FLaw := fun_mk (st := sLaw) l5 c5 k5
  have bLaw := FLaw.binds (ps := ["_law_script"]) fun _ _ _ _ _ _ us hl => match us, hl with | [_], _ => rfl
  have gLaw := PySem.W.mg_of X G a5
  have FInv := fun_mk (st := sInv) l6 c6 k6
  have bInv := FInv.binds (ps := ["p", "a"]) fun _ _ _ _ _ _ us hl => match us, hl with | [_, _], _ => rfl
  have gInv := PySem.W.mg_of X G a6
  have m_len := PySem.W.mg_none_of X G z0
  have m_abs := PySem.W.mg_none_of X G z1
  have m_int := PySem.W.mg_none_of X G z2
  have m_list := PySem.W.mg_none_of X G z3
  have m_range := PySem.W.mg_none_of X G z4
  have m_isinstance := PySem.W.mg_none_of X G z5
  have m_bool := PySem.W.mg_none_of X G z6
  have m_max := PySem.W.mg_none_of X G z7
  have m_min := PySem.W.mg_none_of X G z8
  have m_all := PySem.W.mg_none_of X G z9
  refine ⟨PySem.W.fnOf "law" "law" (defArgs sLaw) (defBody sLaw) (defScope sLaw) .none kV5 dc5 pm5 an5 cd5 ct5, fun s v => .of_eq rfl, fun base _ _ => ?_⟩
  have GU : FnOk l.prog w K mg base CX0 6 _ _ ["_law_script", "_law_k"] (spUrn K) := ok_urn FUrn m_len m_abs m_int
  have GO : FnOk l.prog w K mg base CX0 4 _ _ ["_law_urn_here", "_law_items"] (spOf K) := ok_of FOf FTake bTake gTake m_len
  have GP : FnOk l.prog w K mg base CX0 5 _ _ ["_law_urn_here"] spPrime := ok_prime FPrime GO FOf.kp bOf gOf
  have GR : FnOk l.prog w K mg base CX0 6 _ _ ["_law_urn_here"] spRight := ok_right FRight GP FPrime.kp bPrime gPrime FTake bTake gTake FInv bInv gInv m_len m_list m_range m_isinstance m_bool m_int
  exact ok_law FLaw GR FRight.kp bRight gRight GU FUrn.kp bUrn gUrn m_len m_range m_max m_min m_all
end K02
open PySem PySem.W PyProof.Rows
set_option maxRecDepth 100000 in
set_option maxHeartbeats 0 in
theorem PySem.Challenge.cw_leastjournal_k02_inverses_holds : PySem.Challenge.rw_leastjournal_k02_inverses.Holds := by
  w_on; o_law; k_head; (case hw => w_witness2)
  k_fill
  refine L2.walk_of (l := PySem.Challenge.rw_leastjournal_k02_inverses) (n := 63) (k := 7) (x := "_law_script") (CX := fun _ => L2.CX0) (sp := fun w => K02.spLaw _) rfl (by decide) rfl ⟨rfl, by decide, by decide⟩ (fun w h Y => PySem.W.kIn_of Y) ?F (fun _ _ a ns hl _ hS => ⟨a, ns, rfl, hS, hl, fun _ => rfl⟩) (fun _ _ _ _ _ h => h)
  case F =>
    intro w mg fa h KX G hmg
    refine' K02.all_mk KX G hmg ?a0 ?l0 ?c0 ?k0 ?a1 ?l1 ?c1 ?k1 ?a2 ?l2 ?c2 ?k2 ?a3 ?l3 ?c3 ?k3 ?a4 ?l4 ?c4 ?k4 ?a5 ?l5 ?c5 ?k5 ?a6 ?l6 ?c6 ?k6 ?z0 ?z1 ?z2 ?z3 ?z4 ?z5 ?z6 ?z7 ?z8 ?z9
    (case a0 => k_is); (case l0 => k_is); (case c0 => k_is); (case k0 => k_is); (case a1 => k_is); (case l1 => k_is); (case c1 => k_is); (case k1 => k_is); (case a2 => k_is); (case l2 => k_is); (case c2 => k_is); (case k2 => k_is); (case a3 => k_is); (case l3 => k_is); (case c3 => k_is); (case k3 => k_is); (case a4 => k_is); (case l4 => k_is); (case c4 => k_is); (case k4 => k_is); (case a5 => k_is); (case l5 => k_is); (case c5 => k_is); (case k5 => k_is); (case a6 => k_is); (case l6 => k_is); (case c6 => k_is); (case k6 => k_is); (case z0 => k_is); (case z1 => k_is); (case z2 => k_is); (case z3 => k_is); (case z4 => k_is); (case z5 => k_is); (case z6 => k_is); (case z7 => k_is); (case z8 => k_is); (case z9 => k_is)
