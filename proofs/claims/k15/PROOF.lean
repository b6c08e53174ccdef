import PyProof.Rows.All
import Wide.All
import OpenK.AllK
import Wide.FinOn
import HandS.ForMost
import HandS.Wide
import HandS.IsInst
import HandS.Flow
import HandS.Evl
import PyProof.StrBlock2
import PyProof.EqAt
import PyProof.EqKinds
import PyProof.TupleCall
import KE.KExcSuper
import HandS.ForExc
import HandS.ExcInit
import HandS.ExcIs
import HandS.ExcField
import HandS.ExcValue
import KE.KExcIs
import HandS.Conv
import HandS.Walk
import KE.RegKSuper
import KE.RegKIsAll
import PySem.Challenge.RW_leastjournal_k15_errors_by_themselves
set_option Elab.async false
set_option linter.all false
set_option maxRecDepth 100000
namespace Lj
open PySem PySem.Spec PyProof.Rows L2
section
variable {X : Cx}
theorem op_mulS : OpR X (binaryOp .Mult) (fun x y H Q => ∃ z n, x = .str z ∧ y = .int n ∧ MulOk z n ∧ Q (.str (Txt.mul z n)) H) := by
  intro pins s σ H x y v u Q I rx ry h
  obtain ⟨z, n, rfl, rfl, ok, q⟩ := h
  obtain ⟨t, rfl⟩ := rx
  obtain ⟨t', rfl⟩ := ry
  exact SB.mul ok fun t2 k => ⟨.str _, H, I.tok _, ⟨_, rfl⟩, q⟩
end
section
variable {X : Cx} {CX : CXT} {k : Nat} {f : Addr} {fd : FuncData} {ps ks : List Str} {sp : Sp} {E : XK} {x : Str} {p pos : Pos} {kws : List Keyword} {tk : TA}
  {g : List Value → List Value → List Value} {gV : List V → List V → List V}
/-- f(k = v, ..), no positional arguments -/
theorem pe_callK0 (F : FnOk X.prog X.w X.K X.mg X.base CX k f fd ps sp) (hr : Room k X.A) (hg : Gl X x) (hm : X.mg x = some (.ref f)) (hk : PySem.W.keepIn X.K (.ref f) = true) (hb : KBinds X.K fd ps ks g gV) (hx : Passes CX X E)
    (hkw : PK X kws tk) (hall : (backToKw pos (keywordEach kws X.env)).all (·.1.isSome) = true := by rfl) (hks : (backToKw pos (keywordEach kws X.env)).filterMap (·.1) = ks := by rfl)
    (hdb : (x == ("__debug__" : Str)) = false := by decide)
    (hpl : ((backTo pos (starEach [] X.env)).any (·.1) || (backToKw pos (keywordEach kws X.env)).any (·.1.isNone)) = false := by rfl) :
    PE X (.Call (.Name x p) [] kws pos) (fun σ H Q => tk σ H fun zs H1 => sp (gV [] zs) H1 Q E) := by
  refine ⟨fun pins s σ H Q I h => ?_⟩
  refine wpAny_Call_Name_kw (ld_glob I hg hm ?_ hdb)
  refine PySem.W.callWith_KW0 (h₀ := X.base) I.ok.mod.kin hk hall (thn (hkw.run pos pins s σ H _ I h) fun ws s2 ⟨zs, H2, I2, rz, q2⟩ => ⟨I2.kIn, ?_⟩) hpl
  rw [hks]
  exact run_fnk (us := []) (vs := []) F hr hb hx I2 .nil rz q2
end
/-! ### heaps -/
theorem same_new {H : Hp} {p : Addr} {o : HO} (h : H p = none) : Same H (upd H p o) := fun b x e => by
  rw [upd_ne (ne_of_none e h)]
  exact e
/-- all but p stands as before -/
def But (p : Addr) (H H' : Hp) : Prop := ∀ b o, b ≠ p → H b = some o → H' b = some o
theorem But.refl (p : Addr) (H : Hp) : But p H H := fun _ _ _ h => h
theorem But.trans {p : Addr} {H H1 H2 : Hp} (a : But p H H1) (b : But p H1 H2) : But p H H2 := fun c o n h => b c o n (a c o n h)
theorem But.same {p : Addr} {H H' : Hp} (s : Same H H') : But p H H' := fun b o _ h => s b o h
theorem But.new {p q : Addr} {H : Hp} {o : HO} (h : H q = none) : But p H (upd H q o) := But.same (same_new h)
theorem But.upd {p : Addr} {H : Hp} {o : HO} : But p H (upd H p o) := fun b x n e => by
  rw [upd_ne n]
  exact e
theorem But.rd {p a : Addr} {H H' : Hp} {u : HO} (b : But p H H') (n : a ≠ p) (h : Rd H a u) : Rd H' a u := by
  rcases h with h | ⟨o, h⟩
  · exact .inl (b _ _ n h)
  · exact .inr ⟨o, b _ _ n h⟩
theorem But.seq {K : PySem.W.Frag} {p a : Addr} {H H' : Hp} {xs : List V} (b : But p H H') (n : a ≠ p) (h : SqL K H a xs) : SqL K H' a xs := by
  rcases h with h | h
  · exact .inl (b.rd n h)
  · exact .inr h
theorem But.tup {K : PySem.W.Frag} {p a : Addr} {H H' : Hp} {xs : List V} (b : But p H H') (n : a ≠ p) (h : SqT K H a xs) : SqT K H' a xs := by
  rcases h with h | h
  · exact .inl (b.rd n h)
  · exact .inr h
/-! ### the urn: two numbers in a list -/
def wide : Nat := 2 ^ 1000
def Urn (H : Hp) (p : Addr) : Prop := ∃ u v : Int, H p = some (.lst [.int u, .int v]) ∧ 0 ≤ u ∧ u.natAbs < wide ∧ 0 ≤ v ∧ v < 2305843009213693951
theorem Urn.but {p q : Addr} {H H' : Hp} (b : But q H H') (n : p ≠ q) (h : Urn H p) : Urn H' p := by
  obtain ⟨u, v, e, r⟩ := h
  exact ⟨u, v, b _ _ n e, r⟩
theorem Urn.same {p : Addr} {H H' : Hp} (b : Same H H') (h : Urn H p) : Urn H' p := by
  obtain ⟨u, v, e, r⟩ := h
  exact ⟨u, v, b _ _ e, r⟩
theorem Urn.ne {p q : Addr} {H : Hp} (h : Urn H p) (e : H q = none) : q ≠ p := by
  obtain ⟨u, v, e', _⟩ := h
  exact (ne_of_none e' e).symm
theorem Urn.free {p q : Addr} {H H' : Hp} (h : Urn H' p) (b : But p H H') (e : H' q = none) : H q = none := by
  have n := h.ne e
  cases z : H q with
  | none => rfl
  | some o => rw [b _ _ n z] at e; cases e
def spUrn (K : PySem.W.Frag) : Sp := fun vs H Q _ => ∃ (a : Addr) (ns : List Int) (k : Int), vs = [.ref a, .int k] ∧ SqL K H a (ns.map V.int) ∧ 0 ≤ k ∧ k ≤ 1000 ∧
  ∀ H' p, Same H H' → H p = none → Urn H' p → Q (.ref p) H'
def spTake : Sp := fun vs H Q _ => ∃ (p : Addr) (n : Int), vs = [.ref p, .int n] ∧ Urn H p ∧ 0 < n ∧ n.natAbs < wide ∧
  ∀ (d : Int) H', 0 ≤ d → d < n → Urn H' p → But p H H' → Q (.int d) H'
def spOf (K : PySem.W.Frag) : Sp := fun vs H Q _ => ∃ (p q : Addr) (xs : List V), vs = [.ref p, .ref q] ∧ Urn H p ∧ q ≠ p ∧ SqL K H q xs ∧ xs ≠ [] ∧ xs.length ≤ 1000 ∧
  ∀ x H', x ∈ xs → Urn H' p → But p H H' → Q x H'
def urnText : Str := "1" ++ Txt.mul "0" 300
theorem urnText_int : PySem.intText? urnText = some (10 ^ 300) := by decide +kernel
theorem urnText_len : urnText.length ≤ 640 := by decide +kernel
theorem mul_ok0 : MulOk "0" 300 := ⟨by decide, fun _ _ => by decide, fun _ _ => by decide⟩
theorem small {n : Nat} (h : n ≤ 1000) : n ≤ sizeLine := Nat.le_of_lt (small1000 h)
theorem own_lt (c : Int) (b : Bool) : 0 ≤ (if c < 0 then -c else c) % 10 ^ 300 * (if b then 1 else 0) ∧ ((if c < 0 then -c else c) % 10 ^ 300 * (if b then 1 else 0)).natAbs < wide := by
  have h1 : 0 ≤ (if c < 0 then -c else c) % (10 ^ 300 : Int) := Int.emod_nonneg _ (by decide)
  have h2 : (if c < 0 then -c else c) % (10 ^ 300 : Int) < 10 ^ 300 := Int.emod_lt_of_pos _ (by decide)
  generalize (if c < 0 then -c else c) % (10 ^ 300 : Int) = z at h1 h2
  have h3 : (10 ^ 300 : Int) < (wide : Int) := by decide +kernel
  have h4 : 0 < wide := by decide +kernel
  cases b with
  | true =>
    rw [if_pos rfl, Int.mul_one]
    exact ⟨h1, by omega⟩
  | false =>
    rw [if_neg Bool.false_ne_true, Int.mul_zero]
    exact ⟨Int.le_refl 0, h4⟩
theorem ind_bd (b : Bool) : -(2 ^ 64) < (if b then 1 else 0 : Int) ∧ (if b then 1 else 0 : Int) < 2 ^ 64 := by
  cases b
  · exact ⟨by decide, by decide⟩
  · exact ⟨by decide, by decide⟩
def nx (v : Int) : Int := (v * 1181783497276652981 + 12345678910987) % 2305843009213693951
theorem nx0 (v : Int) : 0 ≤ nx v := Int.emod_nonneg _ (by decide)
theorem nx1 (v : Int) : nx v < 2305843009213693951 := Int.emod_lt_of_pos _ (by decide)
def ny (v : Int) : Int := (v * 3202034522624059733 + 1) % 2305843009213693951
theorem ny0 (v : Int) : 0 ≤ ny v := Int.emod_nonneg _ (by decide)
theorem ny1 (v : Int) : ny v < 2305843009213693951 := Int.emod_lt_of_pos _ (by decide)
theorem at_int {ns : List Int} {k : Int} (h0 : 0 ≤ k) (h : k < (ns.length : Int)) : ∃ v : Int, v ∈ ns ∧ atI (ns.map V.int) k = some (.int v) := by
  have hk : k.toNat < ns.length := by omega
  have ek : k = ((k.toNat : Nat) : Int) := by omega
  have q : atI (ns.map V.int) ((k.toNat : Nat) : Int) = some (.int ns[k.toNat]) := atI_nat (by rw [List.getElem?_map, List.getElem?_eq_getElem hk] <;> rfl)
  rw [← ek] at q
  exact ⟨ns[k.toNat], List.getElem_mem hk, q⟩
theorem at_any {xs : List V} {k : Int} (h0 : 0 ≤ k) (h : k < (xs.length : Int)) : ∃ v : V, v ∈ xs ∧ atI xs k = some v := by
  have hk : k.toNat < xs.length := by omega
  have ek : k = ((k.toNat : Nat) : Int) := by omega
  have q : atI xs ((k.toNat : Nat) : Int) = some xs[k.toNat] := atI_nat (List.getElem?_eq_getElem hk)
  rw [← ek] at q
  exact ⟨xs[k.toNat], List.getElem_mem hk, q⟩
theorem iteP {c A B : Prop} [Decidable c] (h : c) (a : A) : if decide c = true then A else B := by
  rw [decide_eq_true h]
  exact a
theorem iteN {c A B : Prop} [Decidable c] (h : ¬ c) (b : B) : if decide c = true then A else B := by
  rw [decide_eq_false h]
  exact b
/-! ### rules with the written part named: for the blocks of comprehensions -/
section
variable {X : Cx} {K : PySem.W.Frag}
theorem ix_tupK (h : X.K = K) : IxR X (rIxT K) := h ▸ ix_tup
theorem ix_listK (h : X.K = K) : IxR X (rIxL K) := h ▸ ix_list
def rLenS (K : PySem.W.Frag) : List V → Hp → VK → Prop := fun xs H Q => ∃ p ys, xs = [.ref p] ∧ (SqL K H p ys ∨ SqT K H p ys) ∧ Q (.int ys.length) H
theorem call_len_seqK (h : X.K = K) : CallR X (.builtin "len") (rLenS K) := h ▸ call_len_seq
end
end Lj
set_option Elab.async false
set_option linter.all false
set_option maxRecDepth 100000
namespace Lj
open PySem PySem.Spec PyProof.Rows L2
/-! ### promises of defs that are called where no repr is under way -/
/-- the def at f keeps sp wherever nothing is being shown -/
structure FnG (P : Program) (w : World) (K : PySem.W.Frag) (mg : Str → Option Value) (base : Heap) (k : Nat) (f : Addr) (fd : FuncData) (ps : List Str) (sp : Sp) : Prop where
  len : ∀ vs H Q E, sp vs H Q E → vs.length = ps.length
  run : ∀ (A : Around) (out : List Env) (s : Shared) (H : Hp) (as : Args) (us : List Value) (vs : List V) (Q : VK) (E : XK), A.guards = some [] → Room k A → Env0 P w K mg base A out s H →
    BindsTo s fd as (ps.zip us) → Vals vs us → sp vs H Q E → codeAny (model P w) A (.call (.ref f) as) (CR CX0 out P w H s Q E) s
section
variable {P : Program} {w : World} {K : PySem.W.Frag} {mg : Str → Option Value} {base : Heap} {j k : Nat} {f : Addr} {fd : FuncData} {ps : List Str} {sp sp' : Sp}
theorem FnG.of (F : FnOk P w K mg base CX0 k f fd ps sp) : FnG P w K mg base k f fd ps sp := ⟨F.len, fun A out s H as us vs Q E _ => F.run A out s H as us vs Q E⟩
theorem FnG.up (F : FnG P w K mg base j f fd ps sp) (h : j ≤ k) : FnG P w K mg base k f fd ps sp := ⟨F.len, fun A out s H as us vs Q E g r => F.run A out s H as us vs Q E g (r.mono h)⟩
theorem FnG.weak (F : FnG P w K mg base k f fd ps sp) (h : ∀ vs H Q E, sp' vs H Q E → sp vs H Q E) : FnG P w K mg base k f fd ps sp' :=
  ⟨fun vs H Q E q => F.len vs H Q E (h _ _ _ _ q), fun A out s H as us vs Q E g r e b v q => F.run A out s H as us vs Q E g r e b v (h _ _ _ _ q)⟩
/-- by the def's body, where nothing is being shown -/
theorem FnG.body {x qual : Str} {st : Stmt} {N : List Str} (F : Fun K x qual st f fd) (S : FnScope N ps (defScope st)) (len : ∀ vs H Q E, sp vs H Q E → vs.length = ps.length)
    (hb : ∀ (cdv : Value) (A : Around) (out : List Env) (s : Shared) (H : Hp) (vs : List V) (Q : VK) (E : XK), A.guards = some [] → Room k (A.deeper (envOfC qual (defScope st) s.heap.objs.size f cdv)) → sp vs H Q E →
      ∃ t, PSs (cxOf CX0 P w K mg base N qual (defScope st) f cdv A out s H E).nox (defBody st) t ∧ t { nx := fun _ H' => Q .non H', rt := Q } (start N vs) H) : FnG P w K mg base (k + 1) f fd ps sp := by
  obtain ⟨c0, c1, c2, c3, c4, c5, cd, c6, c7, rfl, look, code⟩ := F.ex
  refine ⟨len, fun A out s H as us vs Q E hg room env bind vals want => ?_⟩
  have ln := len _ _ _ _ want
  have old : ∀ b o, base.get? b = some o → s.heap.get? b = some o := fun b o e => (env.bs b o e).1
  have here : K.In s.heap := env.mod.kin.keeps old
  refine codeAny_call_function room.depth (here _ _ look) rfl S.co S.gen rfl (PySem.W.codeRec_of here code) (bind _ _ _ _ ?_)
  refine wpAny_newFunctionEnv_cells S.kind (fun ⟨n, v⟩ m => (S.par n (List.of_mem_zip m).1).elim .inl fun c => .inr ⟨c, PySem.W.cellsFrom_some _ _ _ (.inl c)⟩) fun en he s1 x => ?_
  subst he
  refine ⟨(env.mod.nolimit.keeps old).keeps x.toInCall.keep, codeAny_func ?_⟩
  obtain ⟨t, rule, holds⟩ := hb cd A out s H vs Q E hg (room.deeper _) want
  have start0 := inv_start (CX := CX0) (E := E) S room.hd env ln vals x
  refine wpAny_mono (rule.nox.run [] s1 (start N vs) H _ start0 holds) (fun r s' z => ?_) fun _ _ z => z
  match r, z with
  | .ret u, ⟨v, σ', H', J, rv, q⟩ => exact ⟨v, H', J.os, J.bare, J.base, J.hok, rv, q⟩
  | .next, ⟨σ', H', J, q⟩ => exact ⟨.non, H', J.os, J.bare, J.base, J.hok, rfl, q⟩
  | .brk, ⟨_, _, _, q⟩ => exact False.elim q
  | .cont, ⟨_, _, _, q⟩ => exact False.elim q
end
/-- where a def stands, under the name x, with its promise -/
structure Cal (P : Program) (w : World) (K : PySem.W.Frag) (mg : Str → Option Value) (base : Heap) (k : Nat) (x : Str) (ps : List Str) (f : Addr) (fd : FuncData) (sp : Sp) : Prop where
  ok : FnG P w K mg base k f fd ps sp
  kp : PySem.W.keepIn K (.ref f) = true
  b : Binds K fd ps []
  g : mg x = some (.ref f)
  lk : ∃ oc od osl, K.lookup f = some ⟨oc, od, .func fd, osl⟩
theorem fun_lk {K : PySem.W.Frag} {x qual : Str} {st : Stmt} {f : Addr} {fd : FuncData} (F : Fun K x qual st f fd) : ∃ oc od osl, K.lookup f = some ⟨oc, od, .func fd, osl⟩ := by
  obtain ⟨c0, c1, c2, c3, c4, c5, cd, c6, c7, e, look, code⟩ := F.ex
  exact ⟨_, _, _, look⟩
def Has (P : Program) (w : World) (K : PySem.W.Frag) (mg : Str → Option Value) (base : Heap) (k : Nat) (x : Str) (ps : List Str) (sp : Sp) : Prop := ∃ f fd, Cal P w K mg base k x ps f fd sp
/-- the def of the text st stands under the name x -/
def At (K : PySem.W.Frag) (mg : Str → Option Value) (x : Str) (st : Stmt) (ps : List Str) : Prop := ∃ f fd, Fun K x x st f fd ∧ Binds K fd ps [] ∧ mg x = some (.ref f)
section
variable {P : Program} {w : World} {K : PySem.W.Frag} {mg : Str → Option Value} {base : Heap} {j k : Nat} {x : Str} {ps : List Str} {sp sp' : Sp}
theorem Has.up (h : Has P w K mg base j x ps sp) (l : j ≤ k) : Has P w K mg base k x ps sp := by
  obtain ⟨f, fd, c⟩ := h
  exact ⟨f, fd, c.ok.up l, c.kp, c.b, c.g, c.lk⟩
theorem Has.weak (h : Has P w K mg base k x ps sp) (i : ∀ vs H Q E, sp' vs H Q E → sp vs H Q E) : Has P w K mg base k x ps sp' := by
  obtain ⟨f, fd, c⟩ := h
  exact ⟨f, fd, c.ok.weak i, c.kp, c.b, c.g, c.lk⟩
theorem Has.by {st : Stmt} {N : List Str} (F : At K mg x st ps) (S : FnScope N ps (defScope st)) (len : ∀ vs H Q E, sp vs H Q E → vs.length = ps.length)
    (hb : ∀ (f : Addr) (cdv : Value) (A : Around) (out : List Env) (s : Shared) (H : Hp) (vs : List V) (Q : VK) (E : XK), A.guards = some [] → Room k (A.deeper (envOfC x (defScope st) s.heap.objs.size f cdv)) → sp vs H Q E →
      ∃ t, PSs (cxOf CX0 P w K mg base N x (defScope st) f cdv A out s H E).nox (defBody st) t ∧ t { nx := fun _ H' => Q .non H', rt := Q } (start N vs) H) : Has P w K mg base (k + 1) x ps sp := by
  obtain ⟨f, fd, F, b, g⟩ := F
  exact ⟨f, fd, .body F S len (hb f), F.kp, b, g, fun_lk F⟩
end
/-- the def behind a name is the text's -/
theorem Cal.text {P : Program} {w : World} {K : PySem.W.Frag} {mg : Str → Option Value} {base : Heap} {k : Nat} {x : Str} {ps qs : List Str} {f : Addr} {fd : FuncData} {sp : Sp} {st : Stmt} (c : Cal P w K mg base k x ps f fd sp) (F : At K mg x st qs) : Fun K x x st f fd := by
  obtain ⟨f2, fd2, F2, _, g2⟩ := F
  have e := c.g.symm.trans g2
  cases e
  obtain ⟨_, _, _, l1⟩ := c.lk
  obtain ⟨_, _, _, l2⟩ := fun_lk F2
  have e := l1.symm.trans l2
  cases e
  exact F2
section
variable {X : Cx} {k : Nat} {x : Str} {ps ks : List Str} {f : Addr} {fd : FuncData} {sp : Sp} {p pos : Pos} {e : Expr} {es : List Expr} {kws : List Keyword} {t tk : TA}
  {g : List Value → List Value → List Value} {gV : List V → List V → List V}
def tCal (sp : Sp) (t : TA) : TE := fun σ H Q => t σ H fun vs H1 => sp vs H1 Q E0
def tCal0 (sp : Sp) : TE := fun _ H Q => sp [] H Q E0
def tCalK (sp : Sp) (gV : List V → List V → List V) (t tk : TA) : TE := fun σ H Q => t σ H fun vs H1 => tk σ H1 fun zs H2 => sp (gV vs zs) H2 Q E0
theorem cal_run {pins : List (Addr × Obj)} {σ : L2.St} {H : Hp} {s : Shared} {Q : VK} {us ws zs : List Value} {vs : List V} {kw : List (Str × Value)} {s2 : Shared} (c : FnG X.prog X.w X.K X.mg X.base k f fd ps sp) (hg : X.A.guards = some []) (hr : Room k X.A)
    (I : Inv X pins σ H s) (bind : BindsTo s fd ⟨us, kw⟩ (ps.zip zs)) (vals : Vals vs zs) (h : sp vs H Q E0) : wpAny (model X.prog X.w) X.A (call (.ref f) us kw) (EP X pins σ Q) X.xe s := by
  refine wpAny_call (codeAny_mono (c.run X.A X.stack s H ⟨us, kw⟩ zs vs Q E0 hg hr I.env0 bind vals h) fun r s' z => ?_)
  match r, z with
  | .error _, z => exact z.elim
  | .ok (.ret _), z => exact I.after z
  | .ok .next, z => exact z.elim
  | .ok .brk, z => exact z.elim
  | .ok .cont, z => exact z.elim
/-- f(e, ..) -/
theorem pe_cal (c : Cal X.prog X.w X.K X.mg X.base k x ps f fd sp) (hg : X.A.guards = some []) (hr : Room k X.A) (gl : Gl X x) (ha : PA X (e :: es) t) (hdb : (x == ("__debug__" : Str)) = false := by decide)
    (he : starEach (e :: es) X.env = (false, eval e X.env) :: starEach es X.env := by rfl) (hpl : (backTo pos (starEach es X.env)).any (·.1) = false := by rfl) :
    PE X (.Call (.Name x p) (e :: es) [] pos) (tCal sp t) := by
  refine ⟨fun pins s σ H Q I h => wpAny_Call_Name_kw (ld_glob I gl c.g ?_ hdb)⟩
  refine PySem.W.callWith_K (h₀ := X.base) I.ok.mod.kin c.kp (thn (ha.run pos pins s σ H _ I h) fun us s1 ⟨vs, H1, I1, r, q⟩ => ⟨I1.kIn, ?_⟩) he hpl
  have ln : (us ++ []).length = ps.length := by
    rw [List.append_nil, ← r.length]
    exact c.ok.len _ _ _ _ q
  have bd := c.b s1 us I1.kIn ln
  rw [List.append_nil] at bd
  exact cal_run (ws := []) (s2 := s1) c.ok hg hr I1 bd r q
/-- f() -/
theorem pe_cal0 (c : Cal X.prog X.w X.K X.mg X.base k x ps f fd sp) (hg : X.A.guards = some []) (hr : Room k X.A) (gl : Gl X x) (hdb : (x == ("__debug__" : Str)) = false := by decide) :
    PE X (.Call (.Name x p) [] [] pos) (tCal0 sp) := by
  refine ⟨fun pins s σ H Q I h => wpAny_Call_Name_kw (ld_glob I gl c.g ?_ hdb)⟩
  have ln := c.ok.len _ _ _ _ h
  exact PySem.W.callWith_K0 I.kIn c.kp (cal_run (ws := []) (zs := []) (s2 := s) c.ok hg hr I (c.b s [] I.kIn ln) .nil h)
/-- f(e, .., n = v, ..) and f(n = v, ..) -/
theorem pe_calK (c : Cal X.prog X.w X.K X.mg X.base k x ps f fd sp) (hb : KBinds X.K fd ps ks g gV) (hg : X.A.guards = some []) (hr : Room k X.A) (gl : Gl X x) (ha : PA X (e :: es) t) (hkw : PK X kws tk)
    (hall : (backToKw pos (keywordEach kws X.env)).all (·.1.isSome) = true := by rfl) (hks : (backToKw pos (keywordEach kws X.env)).filterMap (·.1) = ks := by rfl) (hdb : (x == ("__debug__" : Str)) = false := by decide)
    (he : starEach (e :: es) X.env = (false, eval e X.env) :: starEach es X.env := by rfl)
    (hpl : ((backTo pos (starEach (e :: es) X.env)).any (·.1) || (backToKw pos (keywordEach kws X.env)).any (·.1.isNone)) = false := by rfl) :
    PE X (.Call (.Name x p) (e :: es) kws pos) (tCalK sp gV t tk) := by
  refine ⟨fun pins s σ H Q I h => wpAny_Call_Name_kw (ld_glob I gl c.g ?_ hdb)⟩
  refine PySem.W.callWith_KW (h₀ := X.base) I.ok.mod.kin c.kp hall (thn (ha.run pos pins s σ H _ I h) fun us s1 ⟨vs, H1, I1, r, q⟩ => ?_) hpl he
  refine thn (hkw.run pos pins s1 σ H1 _ I1 q) fun ws s2 ⟨zs, H2, I2, rz, q2⟩ => ⟨I2.kIn, ?_⟩
  rw [hks]
  have r2 := hb.rel r rz
  exact cal_run (ws := []) (s2 := s2) c.ok hg hr I2 (hb.to s2 us ws I2.kIn (by rw [← r2.length]; exact c.ok.len _ _ _ _ q2)) r2 q2
theorem pe_calK0 (c : Cal X.prog X.w X.K X.mg X.base k x ps f fd sp) (hb : KBinds X.K fd ps ks g gV) (hg : X.A.guards = some []) (hr : Room k X.A) (gl : Gl X x) (hkw : PK X kws tk)
    (hall : (backToKw pos (keywordEach kws X.env)).all (·.1.isSome) = true := by rfl) (hks : (backToKw pos (keywordEach kws X.env)).filterMap (·.1) = ks := by rfl) (hdb : (x == ("__debug__" : Str)) = false := by decide)
    (hpl : ((backTo pos (starEach [] X.env)).any (·.1) || (backToKw pos (keywordEach kws X.env)).any (·.1.isNone)) = false := by rfl) :
    PE X (.Call (.Name x p) [] kws pos) (tCalK sp gV tNil tk) := by
  refine ⟨fun pins s σ H Q I h => wpAny_Call_Name_kw (ld_glob I gl c.g ?_ hdb)⟩
  refine PySem.W.callWith_KW0 (h₀ := X.base) I.ok.mod.kin c.kp hall (thn (hkw.run pos pins s σ H _ I h) fun ws s2 ⟨zs, H2, I2, rz, q2⟩ => ⟨I2.kIn, ?_⟩) hpl
  rw [hks]
  have r2 := hb.rel (vs := []) (us := []) .nil rz
  exact cal_run (ws := []) (s2 := s2) c.ok hg hr I2 (hb.to s2 [] ws I2.kIn (by rw [← r2.length]; exact c.ok.len _ _ _ _ q2)) r2 q2
end
/-! ### repr of data -/
theorem repr_flat {P : Program} {w : World} {A : Around} {E : Value → Shared → Prop} {s : Shared} {u : Value} {d : PyData} {as : List Addr} {Q : Value → Shared → Prop} (r : Reads s.heap u d as) (sh : d.showable = true) (nd : d.hasDict = false) (hg : A.guards = some []) (hu : A.units + (d.depth + 1) < cLine) (sz : d.shown.length ≤ sizeLine)
    (hQ : ∀ h' t tk, (∀ b o, s.heap.get? b = some o → h'.get? b = some o) → Q (.str d.shown t) { s with heap := h', toks := tk }) : wpAny (model P w) A (call (.builtin "repr") [u]) Q E s := by
  have no : ∀ b o, s.heap.get? b = some o → s.heap.get? b = some o := fun _ _ e => e
  cases r with
  | none => exact _root_.PySem.P.repr_of_none (hQ s.heap s.toks (s.toks + 1) no)
  | bool b =>
    refine _root_.PySem.P.repr_of_bool ?_
    cases b
    · exact hQ s.heap s.toks (s.toks + 1) no
    · exact hQ s.heap s.toks (s.toks + 1) no
  | int i t => exact _root_.PySem.P.repr_of_int (of_decide_eq_true sh) (hQ s.heap s.toks (s.toks + 1) no)
  | str x t => exact _root_.PySem.P.repr_of_str (hQ s.heap s.toks (s.toks + 1) no) sz
  | list a b c d => exact PySem.repr_of_reads' (.list a b c d) sh (fun z => by rw [nd] at z; cases z) hg hu no (fun h' t tk z => hQ h' t tk z) sz
  | tuple a b c d => exact PySem.repr_of_reads' (.tuple a b c d) sh (fun z => by rw [nd] at z; cases z) hg hu no (fun h' t tk z => hQ h' t tk z) sz
  | dict a b c d e => cases nd
section
variable {X : Cx} {k : Nat}
/-- repr(x), x data without dicts -/
theorem call_reprD (hg : X.A.guards = some []) (hr : Room k X.A) : CallR X (.builtin "repr") (fun xs H Q => ∃ x d, xs = [x] ∧ Dp X.K H x d ∧ d.showable = true ∧ d.hasDict = false ∧ d.depth ≤ 64 ∧ d.shown.length ≤ sizeLine ∧ Q (.str d.shown) H) := by
  intro pins s σ H xs us Q I r h
  obtain ⟨x, d, rfl, dp, sh, nd, de, sz, q⟩ := h
  obtain ⟨u, rfl, ru⟩ := r.one
  obtain ⟨as, rd⟩ := Dp.reads I d x u dp ru
  have un := hr.un
  exact repr_flat rd sh nd hg (by omega) sz fun h' t tk keep => ⟨.str _, H, I.kept keep, ⟨_, rfl⟩, q⟩
end
def rRepr (K : PySem.W.Frag) : List V → Hp → VK → Prop := fun xs H Q => ∃ x d, xs = [x] ∧ Dp K H x d ∧ d.showable = true ∧ d.hasDict = false ∧ d.depth ≤ 64 ∧ d.shown.length ≤ sizeLine ∧ Q (.str d.shown) H
theorem call_reprDK {X : Cx} {K : PySem.W.Frag} {k : Nat} (h : X.K = K) (hg : X.A.guards = some []) (hr : Room k X.A) : CallR X (.builtin "repr") (rRepr K) := h ▸ call_reprD hg hr
/-! ### the end: the law's promise where the claim's caller calls it -/
theorem end_call {P : Program} {w : World} {K : PySem.W.Frag} {mg mb : Str → Option Value} {k : Nat} {fa a : Addr} {fd : FuncData} {x : Str} {sp : Sp} {s : Shared} {vs : List Value} {ns : List Int}
    (kin : K.In s.heap) (glob : s.heap.Ns mainGlobals mg) (blt : s.heap.Ns builtinsNs mb) (same : ∀ x : Str, x ≠ "__name__" → mb x = bootBuiltins x) (lim : s.heap.NoLimit) (gens : s.gens = #[])
    (obj : s.heap.get? a = some { cls := .type "list", data := .seq vs.toArray }) (numb : IntsAre vs ns) (short : ns.length ≤ sizeLine) (room : Room k callerA)
    (F : ∀ base : Heap, K.In base → base.Ns mainGlobals mg → FnG P w K mg base k fa fd [x] sp) (bind : ∀ (s : Shared) (u : Value), BindsTo s fd ⟨[u], []⟩ [(x, u)])
    (want : ∀ H : Hp, Only H → SqL K H a (ns.map V.int) → sp [.ref a] H (fun v _ => v = .bl true) fun _ _ _ => False) :
    codeAny (model P w) callerA (.call (.ref fa) ⟨[.ref a], []⟩) (fun r s' => r = .ok (.ret (.bool true)) ∧ OldK s.heap s'.heap ∧ s'.os = s.os ∧ AllBare s'.gens) s := by
  have vals := vals_ints numb
  -- one step: whatever part H of the script's object is tracked
  have go : ∀ H : Hp, Only H → SqL K H a (ns.map V.int) → HOk P w H s.heap → (∀ b, H b ≠ none → b = a ∧ K.lookup a = none) →
      codeAny (model P w) callerA (.call (.ref fa) ⟨[.ref a], []⟩) (fun r s' => r = .ok (.ret (.bool true)) ∧ OldK s.heap s'.heap ∧ s'.os = s.os ∧ AllBare s'.gens) s := by
    intro H only sq hok at1
    have untracked : ∀ {b : Addr} {o : Obj} {es : Array DictEntry} {n : Nat}, s.heap.get? b = some o → o.data = .dict es n → H b = none := fun {b o es n} e d => by
      by_cases z : H b = none
      · exact z
      · have e2 := (at1 b z).1
        subst e2
        rw [obj] at e
        cases e
        cases d
    have names : ∀ {b : Addr} {m : Str → Option Value}, s.heap.Ns b m → (hidT s.heap H).Ns b m := fun {b m} ⟨o, es, n, e, d, r⟩ => ⟨o, es, n, hidT_get e (untracked e d), d, r⟩
    have kin2 : K.In (hidT s.heap H) := fun b o e => by
      refine hidT_get (kin b o e) ?_
      by_cases z : H b = none
      · exact z
      · obtain ⟨z1, z2⟩ := at1 b z
        rw [z1, z2] at e
        cases e
    obtain ⟨mc, l1, l2⟩ := lim
    have env : Env0 P w K mg (hidT s.heap H) callerA [] s H :=
      ⟨rfl, ⟨kin2, names glob, ⟨mb, names blt, same⟩, ⟨mc, names l1, l2⟩⟩, fun b o e => of_hidT e, Nat.le_of_eq (hidT_size _ _), trivial, fun b m => absurd (show b ∈ ([] : List Addr) from m) List.not_mem_nil, hok, AllBare.of_eq gens⟩
    refine codeAny_mono ((F _ kin2 (names glob)).run callerA [] s H ⟨[.ref a], []⟩ [.ref a] [.ref a] _ _ rfl room env (bind s (.ref a)) (.cons rfl .nil) (want H only sq)) fun r s' z => ?_
    match r, z with
    | .error _, z => exact z.elim
    | .ok .next, z => exact z.elim
    | .ok .brk, z => exact z.elim
    | .ok .cont, z => exact z.elim
    | .ok (.ret u), ⟨v, H', os, bare, un, hok2, rv, q⟩ =>
      have q : v = .bl true := q
      subst q
      obtain rfl : u = Value.bool true := rv
      refine ⟨rfl, OldK.of_keep fun b o e => ?_, os, bare⟩
      by_cases z : H b = none
      · exact un.keep b o e z (fun m => absurd (show b ∈ ([] : List Addr) from m) List.not_mem_nil) List.not_mem_nil
      · rcases only b with y | ⟨ob, xs, y⟩
        · exact absurd y z
        · have e1 := (hok b _ y).1
          have e2 := (hok2 b _ (un.frzs b ob _ y)).1
          rw [e] at e1
          cases e1
          exact e2
  by_cases hk : K.lookup a = none
  · refine go (fun b => if b = a then some (.frz { cls := .type "list", data := .seq vs.toArray } (.lst (ns.map V.int))) else none) (fun b => ?_) (.inl (.inr ⟨_, if_pos rfl⟩)) (fun b u e => ?_) (fun b e => ?_)
    · by_cases y : b = a
      · exact .inr ⟨_, _, if_pos y⟩
      · exact .inl (if_neg y)
    · by_cases y : b = a
      · cases (if_pos y).symm.trans e
        subst y
        exact ⟨obj, by rw [List.length_map]; exact short, vs, _, vals, obj⟩
      · cases (if_neg y).symm.trans e
    · by_cases y : b = a
      · exact ⟨y, hk⟩
      · exact absurd (if_neg y) e
  · obtain ⟨o, ho⟩ := Option.ne_none_iff_exists'.mp hk
    have e := kin a o ho
    rw [obj] at e
    cases e
    refine go (fun _ => none) (fun _ => .inl rfl) (.inr ⟨_, vs.toArray, _, ho, rfl, rfl, rfl, ?_, vals⟩) (fun b u e => by cases e) (fun b e => absurd rfl e)
    rw [List.size_toArray, numb.length]
    exact short
theorem walk_G {l : PySem.W.OpenLaw} {n k : Nat} {q : Program} {loose : List Str} {XP : (Str → Option Value) → Heap → Prop} {YP : World → Heap → Prop} {d : DefRec} {K : Params → PySem.W.Frag} {sp : PySem.W.Frag → Sp} {x : Str}
    (hn : l.most = some n) (hn2 : n ≤ sizeLine) (hdf : d.params.defaults = []) (hr : Room k callerA) (hY : ∀ (w : World) (h : Heap), YP w h → (K w.params).In h)
    (F : ∀ (w : World) (mg : Str → Option Value) (fa : Addr) (h : Heap), (K w.params).In h → h.Ns mainGlobals mg → mg d.name = some (.ref fa) →
      ∃ fd : FuncData, (∀ (s : Shared) (u : Value), BindsTo s fd ⟨[u], []⟩ [(x, u)]) ∧ ∀ base : Heap, (K w.params).In base → base.Ns mainGlobals mg → FnG l.prog w (K w.params) mg base k fa fd [x] (sp (K w.params)))
    (want : ∀ (K : PySem.W.Frag) (H : Hp) (a : Addr) (ns : List Int), ns.length ≤ n → Only H → SqL K H a (ns.map V.int) → sp K [.ref a] H (fun v _ => v = .bl true) fun _ _ _ => False) :
    PySem.W.WalkO q loose XP YP l.row.toRowW d [] (fun f vs => PySem.call f vs) := by
  refine Att.attach_call hn hdf fun w s0 s mg mb fa o pm cd doc a vs ns G Y _ _ _ hmg obj numb short gens => ?_
  have kin := hY w _ Y
  obtain ⟨fd, bind, ok⟩ := F w mg fa _ kin G.T.g hmg
  exact end_call kin G.T.g G.T.b G.T.builtins G.T.nolimit gens obj numb (Nat.le_trans short hn2) hr ok bind fun H o sq => want _ H a ns short o sq
end Lj
set_option Elab.async false
set_option linter.all false
set_option maxRecDepth 100000
namespace Lj
open PySem PySem.Spec PyProof.Rows L2
/-- the built-ins are not hidden by names of the module -/
structure Bl (mg : Str → Option Value) : Prop where
  len_ : mg "len" = none
  abs_ : mg "abs" = none
  int_ : mg "int" = none
  range_ : mg "range" = none
  max_ : mg "max" = none
  min_ : mg "min" = none
  all_ : mg "all" = none
  sum_ : mg "sum" = none
  list_ : mg "list" = none
  tuple_ : mg "tuple" = none
  isinstance_ : mg "isinstance" = none
  bool_ : mg "bool" = none
  repr_ : mg "repr" = none
  enumerate_ : mg "enumerate" = none
  zip_ : mg "zip" = none
  divmod_ : mg "divmod" = none
theorem Has.none {P : Program} {w : World} {K : PySem.W.Frag} {mg : Str → Option Value} {base : Heap} {k : Nat} {x : Str} {ps : List Str} {sp : Sp} {st : Stmt} (F : At K mg x st ps) (no : ∀ vs H Q E, ¬ sp vs H Q E) : Has P w K mg base k x ps sp := by
  obtain ⟨f, fd, F, b, g⟩ := F
  exact ⟨f, fd, ⟨fun vs H Q E h => absurd h (no vs H Q E), fun A out s H as us vs Q E _ _ _ _ _ h => absurd h (no vs H Q E)⟩, F.kp, b, g, fun_lk F⟩
/-! ### trees: instructions -/
inductive Tr where
  | op (w : Str) (as : List Int)
  | loop (k : Int) (b : List Tr)
mutual
def Tr.len : Tr → Int
  | .op _ _ => 1
  | .loop k b => k * lens b
def lens : List Tr → Int
  | [] => 0
  | t :: r => t.len + lens r
end
mutual
def Tr.inn : Tr → Int
  | .op _ _ => 0
  | .loop _ b => (b.length : Int) + inns b
def inns : List Tr → Int
  | [] => 0
  | t :: r => t.inn + inns r
end
def szs (b : List Tr) : Int := (b.length : Int) + inns b
mutual
def Tr.dep : Tr → Int
  | .op _ _ => 0
  | .loop _ b => 1 + deps b
def deps : List Tr → Int
  | [] => 0
  | t :: r => if t.dep > deps r then t.dep else deps r
end
mutual
def Tr.cnt (w : Str) : Tr → Int
  | .op u _ => if u = w then 1 else 0
  | .loop k b => k * cnts w b
def cnts (w : Str) : List Tr → Int
  | [] => 0
  | t :: r => t.cnt w + cnts w r
end
mutual
/-- what is executed, one after another -/
def Tr.ex : Tr → List Tr
  | .op w as => [.op w as]
  | .loop k b => (List.replicate k.toNat (exs b)).flatten
def exs : List Tr → List Tr
  | [] => []
  | t :: r => t.ex ++ exs r
end
mutual
/-- loops at most n deep, the words of the others not loop -/
def Tr.wf : Tr → Nat → Prop
  | .op w _, _ => w ≠ "loop"
  | .loop _ _, 0 => False
  | .loop k b, n + 1 => 0 ≤ k ∧ k ≤ 10 ^ 18 ∧ b.length ≤ 1000 ∧ wfs b n
def wfs : List Tr → Nat → Prop
  | [], _ => True
  | t :: r, n => t.wf n ∧ wfs r n
end
/-- a body for functions that may go n - 1 loops down -/
def okB : Nat → List Tr → Prop
  | 0, _ => False
  | n + 1, b => wfs b n ∧ b.length ≤ 1000
theorem lens_map : ∀ b : List Tr, lens b = (b.map Tr.len).sum
  | [] => rfl
  | t :: r => by rw [lens, lens_map r, List.map_cons, List.sum_cons]
theorem inns_map : ∀ b : List Tr, inns b = (b.map Tr.inn).sum
  | [] => rfl
  | t :: r => by rw [inns, inns_map r, List.map_cons, List.sum_cons]
theorem cnts_map (w : Str) : ∀ b : List Tr, cnts w b = (b.map (Tr.cnt w)).sum
  | [] => rfl
  | t :: r => by rw [cnts, cnts_map w r, List.map_cons, List.sum_cons]
theorem exs_map : ∀ b : List Tr, exs b = (b.map Tr.ex).flatten
  | [] => rfl
  | t :: r => by rw [exs, exs_map r, List.map_cons, List.flatten_cons]
theorem wfs_get : ∀ {b : List Tr} {n i : Nat} {t : Tr}, wfs b n → b[i]? = some t → t.wf n
  | [], _, _, _, _, e => by simp at e
  | t :: r, n, 0, u, h, e => by
    cases e
    rw [wfs] at h
    exact h.1
  | t :: r, n, i + 1, u, h, e => by
    rw [wfs] at h
    exact wfs_get (i := i) h.2 e
theorem wfs_all : ∀ {b : List Tr} {n : Nat}, (∀ t ∈ b, t.wf n) → wfs b n
  | [], _, _ => by rw [wfs]; trivial
  | t :: r, n, h => by
    rw [wfs]
    exact ⟨h t List.mem_cons_self, wfs_all fun u m => h u (List.mem_cons_of_mem _ m)⟩
theorem okB_loop {b b' : List Tr} {n i : Nat} {k : Int} (h : okB (n + 1) b) (e : b[i]? = some (.loop k b')) : 0 ≤ k ∧ k ≤ 10 ^ 18 ∧ okB n b' := by
  have z := wfs_get h.1 e
  cases n with
  | zero => rw [Tr.wf] at z; exact z.elim
  | succ m =>
    rw [Tr.wf] at z
    exact ⟨z.1, z.2.1, z.2.2.2, z.2.2.1⟩
theorem okB_op {b : List Tr} {n i : Nat} {w : Str} {as : List Int} (h : okB (n + 1) b) (e : b[i]? = some (.op w as)) : w ≠ "loop" := by
  have z := wfs_get h.1 e
  rw [Tr.wf] at z
  exact z
theorem at0 {x : V} {xs : List V} : atI (x :: xs) 0 = some x := atI_nat (j := 0) rfl
theorem sum_next {f : Tr → Int} {b : List Tr} {i : Nat} {t : Tr} (e : b[i]? = some t) : ((b.take (i + 1)).map f).sum = ((b.take i).map f).sum + f t := by
  rw [List.take_add_one, e, List.map_append, List.sum_append]
  show _ + (f t + 0) = _
  rw [Int.add_zero]
theorem map_next {α : Type} {f : Tr → α} {b : List Tr} {i : Nat} {t : Tr} (e : b[i]? = some t) : (b.take (i + 1)).map f = (b.take i).map f ++ [f t] := by
  rw [List.take_add_one, e, List.map_append]
  rfl
/-! ### trees in the heap -/
def Kt (H H' : Hp) : Prop := ∀ a xs, Rd H a (.tup xs) → Rd H' a (.tup xs)
theorem Kt.refl (H : Hp) : Kt H H := fun _ _ h => h
theorem Kt.trans {H H1 H2 : Hp} (a : Kt H H1) (b : Kt H1 H2) : Kt H H2 := fun c o h => b c o (a c o h)
theorem Kt.same {H H' : Hp} (s : Same H H') : Kt H H' := fun a xs h => by
  rcases h with h | ⟨o, h⟩
  · exact .inl (s _ _ h)
  · exact .inr ⟨o, s _ _ h⟩
theorem Kt.but {p : Addr} {H H' : Hp} {xs : List V} (b : But p H H') (e : H p = some (.lst xs)) : Kt H H' := fun a ys h => by
  refine b.rd (fun z => ?_) h
  subst z
  rcases h with h | ⟨o, h⟩
  · rw [e] at h; cases h
  · rw [e] at h; cases h
theorem Urn.kt {p : Addr} {H H' : Hp} (u : Urn H p) (b : But p H H') : Kt H H' := by
  obtain ⟨_, _, e, _⟩ := u
  exact Kt.but b e
theorem Kt.sq {K : PySem.W.Frag} {H H' : Hp} {a : Addr} {xs : List V} (k : Kt H H') (h : SqT K H a xs) : SqT K H' a xs := by
  rcases h with h | h
  · exact .inl (k _ _ h)
  · exact .inr h
mutual
def TrAt (K : PySem.W.Frag) (H : Hp) : Tr → V → Prop
  | .op w as, v => ∃ a, v = .ref a ∧ SqT K H a (.str w :: as.map V.int)
  | .loop k b, v => ∃ a c vs, v = .ref a ∧ SqT K H a [.str "loop", .int k, .ref c] ∧ SqT K H c vs ∧ TrsAt K H b vs
def TrsAt (K : PySem.W.Frag) (H : Hp) : List Tr → List V → Prop
  | [], vs => vs = []
  | t :: r, vs => ∃ v us, vs = v :: us ∧ TrAt K H t v ∧ TrsAt K H r us
end
def BodyAt (K : PySem.W.Frag) (H : Hp) (b : List Tr) (v : V) : Prop := ∃ c vs, v = .ref c ∧ SqT K H c vs ∧ TrsAt K H b vs
mutual
theorem TrAt.kt {K : PySem.W.Frag} {H H' : Hp} (k : Kt H H') : ∀ (t : Tr) (v : V), TrAt K H t v → TrAt K H' t v
  | .op w as, v, h => by
    rw [TrAt] at h ⊢
    obtain ⟨a, e, s⟩ := h
    exact ⟨a, e, k.sq s⟩
  | .loop n b, v, h => by
    rw [TrAt] at h ⊢
    obtain ⟨a, c, vs, e, s, s2, r⟩ := h
    exact ⟨a, c, vs, e, k.sq s, k.sq s2, TrsAt.kt k b vs r⟩
theorem TrsAt.kt {K : PySem.W.Frag} {H H' : Hp} (k : Kt H H') : ∀ (b : List Tr) (vs : List V), TrsAt K H b vs → TrsAt K H' b vs
  | [], vs, h => by
    rw [TrsAt] at h ⊢
    exact h
  | t :: r, vs, h => by
    rw [TrsAt] at h ⊢
    obtain ⟨v, us, e, a, b⟩ := h
    exact ⟨v, us, e, TrAt.kt k t v a, TrsAt.kt k r us b⟩
end
theorem BodyAt.kt {K : PySem.W.Frag} {H H' : Hp} {b : List Tr} {v : V} (k : Kt H H') (h : BodyAt K H b v) : BodyAt K H' b v := by
  obtain ⟨c, vs, e, s, r⟩ := h
  exact ⟨c, vs, e, k.sq s, TrsAt.kt k b vs r⟩
theorem TrsAt.length {K : PySem.W.Frag} {H : Hp} : ∀ {b : List Tr} {vs : List V}, TrsAt K H b vs → vs.length = b.length
  | [], vs, h => by
    rw [TrsAt] at h
    rw [h]
    rfl
  | t :: r, vs, h => by
    rw [TrsAt] at h
    obtain ⟨v, us, rfl, _, k⟩ := h
    rw [List.length_cons, List.length_cons, TrsAt.length k]
theorem TrsAt.get {K : PySem.W.Frag} {H : Hp} : ∀ {b : List Tr} {vs : List V} {i : Nat} {v : V}, TrsAt K H b vs → vs[i]? = some v → ∃ t, b[i]? = some t ∧ TrAt K H t v
  | [], vs, i, v, h, e => by
    rw [TrsAt] at h
    rw [h] at e
    simp at e
  | t :: r, vs, 0, v, h, e => by
    rw [TrsAt] at h
    obtain ⟨v', us, rfl, a, _⟩ := h
    cases e
    exact ⟨t, rfl, a⟩
  | t :: r, vs, i + 1, v, h, e => by
    rw [TrsAt] at h
    obtain ⟨v', us, rfl, _, k⟩ := h
    exact TrsAt.get (i := i) k e
theorem TrsAt.append {K : PySem.W.Frag} {H : Hp} : ∀ {b c : List Tr} {vs us : List V}, TrsAt K H b vs → TrsAt K H c us → TrsAt K H (b ++ c) (vs ++ us)
  | [], c, vs, us, h, k => by
    rw [TrsAt] at h
    rw [h]
    exact k
  | t :: r, c, vs, us, h, k => by
    rw [TrsAt] at h
    obtain ⟨v, ws, rfl, a, l⟩ := h
    show TrsAt K H (t :: (r ++ c)) (v :: (ws ++ us))
    rw [TrsAt]
    exact ⟨v, _, rfl, a, TrsAt.append l k⟩
theorem TrsAt.one {K : PySem.W.Frag} {H : Hp} {t : Tr} {v : V} (h : TrAt K H t v) : TrsAt K H [t] [v] := by
  rw [TrsAt]
  exact ⟨v, [], rfl, h, by rw [TrsAt]⟩
theorem TrsAt.nil {K : PySem.W.Frag} {H : Hp} : TrsAt K H [] [] := by rw [TrsAt]
/-! ### promises about trees -/
def spTI (K : PySem.W.Frag) (ok : List Tr → Prop) (f : List Tr → Int) : Sp := fun vs H Q _ => ∃ v b, vs = [v] ∧ BodyAt K H b v ∧ ok b ∧ ∀ H', Same H H' → Q (.int (f b)) H'
def spII (K : PySem.W.Frag) (ok : Tr → Prop) (f : Tr → Int) : Sp := fun vs H Q _ => ∃ v t, vs = [v] ∧ TrAt K H t v ∧ ok t ∧ ∀ H', Same H H' → Q (.int (f t)) H'
def spWI (K : PySem.W.Frag) (ok : List Tr → Prop) : Sp := fun vs H Q _ => ∃ v b w, vs = [v, .str w] ∧ BodyAt K H b v ∧ ok b ∧ w ≠ "loop" ∧ ∀ H', Same H H' → Q (.int (cnts w b)) H'
theorem same_upd {H H' : Hp} {D : Addr} {o : HO} (s : Same H H') (n : H D = none) : Same H (upd H' D o) := fun b x e => by
  rw [upd_ne (ne_of_none e n)]
  exact s _ _ e
end Lj
namespace Lj
mutual
theorem Tr.dep_nn : ∀ t : Tr, 0 ≤ t.dep
  | .op _ _ => by rw [Tr.dep]; decide
  | .loop _ b => by
    rw [Tr.dep]
    have := deps_nn b
    omega
theorem deps_nn : ∀ b : List Tr, 0 ≤ deps b
  | [] => by rw [deps]; decide
  | t :: r => by
    rw [deps]
    have h1 := Tr.dep_nn t
    have h2 := deps_nn r
    split <;> omega
end
end Lj
set_option Elab.async false
set_option linter.all false
set_option maxRecDepth 100000
namespace Lj
open PySem PySem.Spec PyProof.Rows L2
def prs : List Int := [2, 2, 3, 3, 5, 7, 7, 11, 13, 97, 251, 9973, 10007]
theorem prs_bd {q : Int} (h : q ∈ prs) : 2 ≤ q ∧ q ≤ 10007 := by
  have z : (prs.all fun q => decide (2 ≤ q) && decide (q ≤ 10007)) = true := by decide
  have k := List.all_eq_true.mp z q h
  rw [Bool.and_eq_true] at k
  exact ⟨of_decide_eq_true k.1, of_decide_eq_true k.2⟩
def spPrimeU : Sp := fun vs H Q _ => ∃ p : Addr, vs = [.ref p] ∧ Urn H p ∧ ∀ (q : Int) H', q ∈ prs → Urn H' p → But p H H' → Q (.int q) H'
theorem wide_big {n : Int} (h : n ≤ 10 ^ 40) (h0 : 0 ≤ n) : n.natAbs < wide := by
  have z : (10 ^ 40 : Nat) < wide := by decide +kernel
  omega
/-! ### list.count of texts -/
def eqs (z : Str) (v : Value) : Bool := match v with
  | .str y _ => y == z
  | _ => false
theorem count_strs {z : Str} : ∀ {us : List Value} {ss : List Str}, Vals (ss.map V.str) us → us.countP (eqs z) = ss.count z
  | _, [], .nil => rfl
  | _, s :: ss, .cons ⟨t, rfl⟩ r => by
    rw [List.countP_cons, count_strs r, List.count_cons]
    rfl
theorem mem_strs : ∀ {us : List Value} {ss : List Str} {u : Value}, Vals (ss.map V.str) us → u ∈ us → ∃ s t, u = .str s t
  | _, [], _, .nil, m => by cases m
  | _, s :: ss, u, .cons ⟨t, rfl⟩ r, m => by
    rcases List.mem_cons.mp m with rfl | m
    · exact ⟨s, t, rfl⟩
    · exact mem_strs r m
theorem mt_count_str {X : Cx} : MtR X "list.count" (fun x xs H Q => ∃ (p : Addr) (ss : List Str) (z : Str), x = .ref p ∧ xs = [.str z] ∧ SqL X.K H p (ss.map V.str) ∧ Q (.int (ss.count z : Nat)) H) := by
  intro pins s σ H x xs v us Q I rx rxs h
  obtain ⟨p, ss, z, rfl, rfl, sq, q⟩ := h
  cases rx
  obtain ⟨u, rfl, ⟨t, rfl⟩⟩ := rxs.one
  obtain ⟨its, rv, ⟨⟨cls, dd, data, sl⟩, n, ho, hc, hdn, hd⟩, hlen⟩ := I.list sq
  simp only at hc hd
  subst hc hd
  refine call_meets PySem.F.slot_list_count ⟨_, ho, rfl⟩ PySem.F.entry_list_count (PySem.F.args_list_count_2 _ _) (SeqAt.list_countAt p its.toArray n dd sl (.str z t) (eqs z)) ⟨ho, fun y hy => ?_, ?_⟩
  · obtain ⟨a, b, rfl⟩ := mem_strs rv (by simpa using hy)
    exact eqAt_V (y := .str a) (x := .str z) ⟨b, rfl⟩ ⟨t, rfl⟩ rfl rfl
  · refine ⟨.int (ss.count z : Nat), H, I.tok _, ⟨s.toks, ?_⟩, q⟩
    rw [← count_strs rv]
/-! ### instructions as the laws draw them -/
def W7 : List Str := ["set", "copy", "add", "scale", "swap", "read", "write"]
theorem W7_noloop {w : Str} (h : w ∈ W7) : w ≠ "loop" := by
  have z : (W7.all fun w => !(w == ("loop" : Str))) = true := by decide
  have k := List.all_eq_true.mp z w h
  intro e
  subst e
  revert k
  decide
theorem W7_ok {w : Str} (h : w ∈ W7) : PyData.strOk w = true := by
  have z : (W7.all fun w => PyData.strOk w) = true := by decide +kernel
  exact List.all_eq_true.mp z w h
def GoodOp (p n : Int) (w : Str) (as : List Int) : Prop :=
  ((w = "set" ∨ w = "scale") ∧ ∃ x c, as = [x, c] ∧ 0 ≤ x ∧ x < n ∧ 0 ≤ c ∧ c < p) ∨
  ((w = "read" ∨ w = "write") ∧ ∃ x, as = [x] ∧ 0 ≤ x ∧ x < n) ∨
  ((w = "copy" ∨ w = "swap") ∧ ∃ x y, as = [x, y] ∧ 0 ≤ x ∧ x < n ∧ 0 ≤ y ∧ y < n ∧ x ≠ y) ∨
  (w = "add" ∧ ∃ x y c, as = [x, y, c] ∧ 0 ≤ x ∧ x < n ∧ 0 ≤ y ∧ y < n ∧ x ≠ y ∧ 1 ≤ c ∧ c < p)
theorem GoodOp.w7 {p n : Int} {w : Str} {as : List Int} (h : GoodOp p n w as) : w ∈ W7 := by
  rcases h with ⟨rfl | rfl, _⟩ | ⟨rfl | rfl, _⟩ | ⟨rfl | rfl, _⟩ | ⟨rfl, _⟩ <;> decide
mutual
/-- drawn: at most l instructions, loops at most d deep, half as many within; G: of the others, R: of the rounds -/
def Tr.made (G : Str → List Int → Prop) (R : Int → Prop) : Tr → Nat → Nat → Prop
  | .op w as, _, _ => G w as
  | .loop _ _, _, 0 => False
  | .loop k b, l, d + 1 => R k ∧ b.length ≤ l / 2 ∧ mades G R b (l / 2) d
def mades (G : Str → List Int → Prop) (R : Int → Prop) : List Tr → Nat → Nat → Prop
  | [], _, _ => True
  | t :: r, l, d => t.made G R l d ∧ mades G R r l d
end
theorem mades_append {G : Str → List Int → Prop} {R : Int → Prop} : ∀ {b c : List Tr} {l d : Nat}, mades G R b l d → mades G R c l d → mades G R (b ++ c) l d
  | [], _, _, _, _, k => k
  | t :: r, c, l, d, h, k => by
    rw [mades] at h
    show mades G R (t :: (r ++ c)) l d
    rw [mades]
    exact ⟨h.1, mades_append h.2 k⟩
theorem mades_one {G : Str → List Int → Prop} {R : Int → Prop} {t : Tr} {l d : Nat} (h : t.made G R l d) : mades G R [t] l d := by
  rw [mades, mades]
  exact ⟨h, trivial⟩
theorem mades_nil {G : Str → List Int → Prop} {R : Int → Prop} {l d : Nat} : mades G R [] l d := by
  rw [mades]
  trivial
mutual
theorem Tr.made_wf {G : Str → List Int → Prop} {R : Int → Prop} (hG : ∀ w as, G w as → w ∈ W7) (hR : ∀ k, R k → 0 ≤ k ∧ k ≤ 10 ^ 18) : ∀ (t : Tr) (l d : Nat), l ≤ 1000 → t.made G R l d → t.wf d
  | .op w as, l, d, _, h => by
    rw [Tr.made] at h
    rw [Tr.wf]
    exact W7_noloop (hG w as h)
  | .loop k b, l, 0, _, h => by
    rw [Tr.made] at h
    exact h.elim
  | .loop k b, l, d + 1, hl, h => by
    rw [Tr.made] at h
    rw [Tr.wf]
    exact ⟨(hR k h.1).1, (hR k h.1).2, by omega, mades_wf hG hR b (l / 2) d (by omega) h.2.2⟩
theorem mades_wf {G : Str → List Int → Prop} {R : Int → Prop} (hG : ∀ w as, G w as → w ∈ W7) (hR : ∀ k, R k → 0 ≤ k ∧ k ≤ 10 ^ 18) : ∀ (b : List Tr) (l d : Nat), l ≤ 1000 → mades G R b l d → wfs b d
  | [], _, _, _, _ => by rw [wfs]; trivial
  | t :: r, l, d, hl, h => by
    rw [mades] at h
    rw [wfs]
    exact ⟨Tr.made_wf hG hR t l d hl h.1, mades_wf hG hR r l d hl h.2⟩
end
/-- the most steps that such a body executes, loops of at most 3 rounds -/
def most : Nat → Nat → Nat
  | 0, _ => 1
  | d + 1, l => max 1 (3 * ((l / 2) * most d (l / 2)))
mutual
theorem Tr.made_ex {G : Str → List Int → Prop} {R : Int → Prop} (hR : ∀ k, R k → 0 ≤ k ∧ k ≤ 3) : ∀ (t : Tr) (l d : Nat), t.made G R l d → t.ex.length ≤ most d l
  | .op w as, l, 0, h => by rw [Tr.ex, most]; exact Nat.le_refl 1
  | .op w as, l, d + 1, h => by rw [Tr.ex, most]; exact Nat.le_max_left _ _
  | .loop k b, l, 0, h => by
    rw [Tr.made] at h
    exact h.elim
  | .loop k b, l, d + 1, h => by
    rw [Tr.made] at h
    have ih := mades_ex hR b (l / 2) d h.2.2
    have hk := hR k h.1
    rw [Tr.ex, most, List.length_flatten, List.map_replicate, List.sum_replicate_nat]
    refine Nat.le_trans ?_ (Nat.le_max_right _ _)
    have h1 : (exs b).length ≤ l / 2 * most d (l / 2) := Nat.le_trans ih (Nat.mul_le_mul_right _ h.2.1)
    exact Nat.mul_le_mul (by omega) h1
theorem mades_ex {G : Str → List Int → Prop} {R : Int → Prop} (hR : ∀ k, R k → 0 ≤ k ∧ k ≤ 3) : ∀ (b : List Tr) (l d : Nat), mades G R b l d → (exs b).length ≤ b.length * most d l
  | [], _, _, _ => by rw [exs]; exact Nat.zero_le _
  | t :: r, l, d, h => by
    rw [mades] at h
    have h1 := Tr.made_ex hR t l d h.1
    have h2 := mades_ex hR r l d h.2
    rw [exs, List.length_append, List.length_cons, Nat.succ_mul]
    omega
end
/-! ### what is executed: numbers -/
theorem flat_len {α : Type} (n : Nat) (xs : List α) : ((List.replicate n xs).flatten).length = n * xs.length := by
  rw [List.length_flatten, List.map_replicate, List.sum_replicate_nat]
mutual
theorem Tr.ex_len : ∀ (t : Tr) (d : Nat), t.wf d → (t.ex.length : Int) = t.len
  | .op w as, _, _ => by rw [Tr.ex, Tr.len]; rfl
  | .loop k b, 0, h => by rw [Tr.wf] at h; exact h.elim
  | .loop k b, d + 1, h => by
    rw [Tr.wf] at h
    have ih := exs_len b d h.2.2.2
    rw [Tr.ex, Tr.len, flat_len, ← ih, Int.natCast_mul]
    congr 1
    omega
theorem exs_len : ∀ (b : List Tr) (d : Nat), wfs b d → ((exs b).length : Int) = lens b
  | [], _, _ => by rw [exs, lens]; rfl
  | t :: r, d, h => by
    rw [wfs] at h
    rw [exs, lens, List.length_append, Int.natCast_add, Tr.ex_len t d h.1, exs_len r d h.2]
end
/-- the word of an instruction -/
def Tr.word : Tr → Str
  | .op w _ => w
  | .loop _ _ => "loop"
theorem count_flat (z : Str) (xs : List Tr) : ∀ n : Nat, (((List.replicate n xs).flatten).map Tr.word).count z = n * (xs.map Tr.word).count z
  | 0 => by simp
  | n + 1 => by rw [List.replicate_succ, List.flatten_cons, List.map_append, List.count_append, count_flat z xs n, Nat.succ_mul, Nat.add_comm]
mutual
theorem Tr.ex_cnt (z : Str) : ∀ (t : Tr) (d : Nat), t.wf d → (((t.ex.map Tr.word).count z : Nat) : Int) = t.cnt z
  | .op w as, _, _ => by
    rw [Tr.ex, Tr.cnt]
    show (([w].count z : Nat) : Int) = _
    rw [List.count_singleton]
    by_cases e : w = z
    · rw [if_pos e, if_pos (beq_iff_eq.mpr e)]
      rfl
    · rw [if_neg e, if_neg (fun h => e (beq_iff_eq.mp h))]
      rfl
  | .loop k b, 0, h => by rw [Tr.wf] at h; exact h.elim
  | .loop k b, d + 1, h => by
    rw [Tr.wf] at h
    have ih := exs_cnt z b d h.2.2.2
    rw [Tr.ex, Tr.cnt, count_flat, ← ih, Int.natCast_mul]
    congr 1
    omega
theorem exs_cnt (z : Str) : ∀ (b : List Tr) (d : Nat), wfs b d → ((((exs b).map Tr.word).count z : Nat) : Int) = cnts z b
  | [], _, _ => by rw [exs, cnts]; rfl
  | t :: r, d, h => by
    rw [wfs] at h
    rw [exs, cnts, List.map_append, List.count_append, Int.natCast_add, Tr.ex_cnt z t d h.1, exs_cnt z r d h.2]
end
/-- all are no loops -/
def Ops (b : List Tr) : Prop := ∀ t ∈ b, ∃ w as, t = .op w as ∧ w ∈ W7
mutual
theorem Tr.ex_ops {G : Str → List Int → Prop} {R : Int → Prop} (hG : ∀ w as, G w as → w ∈ W7) : ∀ (t : Tr) (l d : Nat), t.made G R l d → Ops t.ex
  | .op w as, l, d, h => by
    rw [Tr.made] at h
    rw [Tr.ex]
    intro t m
    exact ⟨w, as, List.mem_singleton.mp m, hG w as h⟩
  | .loop k b, l, 0, h => by rw [Tr.made] at h; exact h.elim
  | .loop k b, l, d + 1, h => by
    rw [Tr.made] at h
    rw [Tr.ex]
    intro t m
    obtain ⟨xs, m1, m2⟩ := List.mem_flatten.mp m
    rw [(List.mem_replicate.mp m1).2] at m2
    exact exs_ops hG b (l / 2) d h.2.2 t m2
theorem exs_ops {G : Str → List Int → Prop} {R : Int → Prop} (hG : ∀ w as, G w as → w ∈ W7) : ∀ (b : List Tr) (l d : Nat), mades G R b l d → Ops (exs b)
  | [], _, _, _ => by rw [exs]; intro t m; cases m
  | t :: r, l, d, h => by
    rw [mades] at h
    rw [exs]
    intro u m
    rcases List.mem_append.mp m with m | m
    · exact Tr.ex_ops hG t l d h.1 u m
    · exact exs_ops hG r l d h.2 u m
end
/-! ### data of instructions -/
def Tr.dat : Tr → PyData
  | .op w as => .tuple (.str w :: as.map .int)
  | .loop _ _ => .none
theorem dp_ints {K : PySem.W.Frag} {H : Hp} : ∀ as : List Int, DpAll K H (as.map V.int) (as.map PyData.int)
  | [] => .nil
  | a :: r => .cons (.int a) (dp_ints r)
theorem lay_ints : ∀ as : List Int, PyData.canLayAll0 (as.map PyData.int) = true
  | [] => by rw [List.map_nil, PyData.canLayAll0]
  | a :: r => by rw [List.map_cons, PyData.canLayAll0, PyData.canLay0, lay_ints r]; rfl
theorem depth_ints : ∀ as : List Int, PyData.depthAll (as.map PyData.int) = 0
  | [] => by rw [List.map_nil, PyData.depthAll]
  | a :: r => by rw [List.map_cons, PyData.depthAll, PyData.depth, depth_ints r]; rfl
theorem Ops.dp {K : PySem.W.Frag} {H : Hp} : ∀ {b : List Tr} {vs : List V}, Ops b → TrsAt K H b vs → DpAll K H vs (b.map Tr.dat)
  | [], vs, _, h => by
    rw [TrsAt] at h
    rw [h]
    exact .nil
  | t :: r, vs, o, h => by
    rw [TrsAt] at h
    obtain ⟨v, us, rfl, a, k⟩ := h
    obtain ⟨w, as, rfl, _⟩ := o t List.mem_cons_self
    rw [TrAt] at a
    obtain ⟨x, rfl, sq⟩ := a
    exact .cons (.tup sq (.cons (.str w) (dp_ints as))) (Ops.dp (fun u m => o u (List.mem_cons_of_mem _ m)) k)
theorem Ops.lay : ∀ {b : List Tr}, Ops b → PyData.canLayAll0 (b.map Tr.dat) = true
  | [], _ => by rw [List.map_nil, PyData.canLayAll0]
  | t :: r, o => by
    obtain ⟨w, as, rfl, hw⟩ := o t List.mem_cons_self
    rw [List.map_cons, PyData.canLayAll0, Ops.lay (fun u m => o u (List.mem_cons_of_mem _ m)), Tr.dat, PyData.canLay0, PyData.canLayAll0, PyData.canLay0, W7_ok hw, lay_ints]
    rfl
theorem Ops.deep : ∀ {b : List Tr}, Ops b → PyData.depthAll (b.map Tr.dat) ≤ 1
  | [], _ => by rw [List.map_nil, PyData.depthAll]; exact Nat.zero_le _
  | t :: r, o => by
    obtain ⟨w, as, rfl, hw⟩ := o t List.mem_cons_self
    have ih := Ops.deep (b := r) (fun u m => o u (List.mem_cons_of_mem _ m))
    rw [List.map_cons, PyData.depthAll, Tr.dat, PyData.depth, PyData.depthAll, PyData.depth, depth_ints]
    omega
theorem Ops.shaped {b : List Tr} (o : Ops b) : SeqAt.shaped (.list (b.map Tr.dat)) = true := by
  unfold SeqAt.shaped
  rw [PyData.canLay0, o.lay, PyData.depth, decide_eq_true (by have := o.deep; omega)]
  rfl
theorem shaped_nil : SeqAt.shaped (.list []) = true := by decide
theorem eqv_nil : ∀ b : List PyData, PyData.eqv (.list b) (.list []) = b.isEmpty
  | [] => by rw [PyData.eqv, PyData.eqvAll]; rfl
  | a :: r => by rw [PyData.eqv, PyData.eqvAll]; rfl
theorem inV2 {w a b : Str} : inV (.str w) [.str a, .str b] = true ↔ (w = a ∨ w = b) := by
  show (a == w || (b == w || false)) = true ↔ _
  rw [Bool.or_false, Bool.or_eq_true, beq_iff_eq, beq_iff_eq]
  constructor
  · rintro (h | h)
    · exact .inl h.symm
    · exact .inr h.symm
  · rintro (h | h)
    · exact .inl h.symm
    · exact .inr h.symm
/-! ### promises of the law's own defs -/
def W9 : List Str := ["set", "copy", "copy", "add", "add", "scale", "swap", "read", "write"]
theorem W9_in : ∀ x ∈ W9, x ∈ W7 := by
  have z : (W9.all fun x => W7.contains x) = true := by decide
  intro x m
  exact List.contains_iff_mem.mp (List.all_eq_true.mp z x m)
def spWords : Sp := fun vs H Q _ => vs = [] ∧ ∀ p, H p = none → Q (.ref p) (upd H p (.lst (W9.map V.str)))
def spItem (K : PySem.W.Frag) : Sp := fun vs H Q _ => ∃ (u ws : Addr) (p n : Int) (wl : List Str), vs = [.ref u, .int p, .int n, .ref ws] ∧ Urn H u ∧ 2 ≤ p ∧ p ≤ 10007 ∧ 1 ≤ n ∧ n ≤ 8 ∧ ws ≠ u ∧ SqL K H ws (wl.map V.str) ∧ wl ≠ [] ∧ wl.length ≤ 1000 ∧ (∀ x ∈ wl, x ∈ W7) ∧
  ∀ w as v H', GoodOp p n w as → (w ∈ wl ∨ w = "set") → TrAt K H' (.op w as) v → Urn H' u → But u H H' → Q v H'
def spBody (K : PySem.W.Frag) (d : Nat) : Sp := fun vs H Q _ => ∃ (u ws rs : Addr) (p n : Int) (wl : List Str) (rl : List Int) (l e : Nat), vs = [.ref u, .int p, .int n, .ref ws, .int (l : Int), .int (e : Int), .ref rs] ∧ Urn H u ∧ 2 ≤ p ∧ p ≤ 10007 ∧ 1 ≤ n ∧ n ≤ 8 ∧ ws ≠ u ∧ SqL K H ws (wl.map V.str) ∧ wl ≠ [] ∧ wl.length ≤ 1000 ∧ (∀ x ∈ wl, x ∈ W7) ∧
  rs ≠ u ∧ SqL K H rs (rl.map V.int) ∧ rl ≠ [] ∧ rl.length ≤ 1000 ∧ l ≤ 1000 ∧ e < d ∧
  ∀ b v H', b.length ≤ l → mades (fun w as => GoodOp p n w as ∧ (w ∈ wl ∨ w = "set")) (fun k => k ∈ rl) b l e → BodyAt K H' b v → Urn H' u → But u H H' → Q v H'
mutual
/-- every body within executes a bounded number of steps -/
def Tr.fine : Tr → Prop
  | .op w _ => w ∈ W7
  | .loop _ b => (exs b).length ≤ 100000 ∧ fines b
def fines : List Tr → Prop
  | [] => True
  | t :: r => t.fine ∧ fines r
end
theorem fines_get : ∀ {b : List Tr} {i : Nat} {t : Tr}, fines b → b[i]? = some t → t.fine
  | [], _, _, _, e => by simp at e
  | t :: r, 0, u, h, e => by
    cases e
    rw [fines] at h
    exact h.1
  | t :: r, i + 1, u, h, e => by
    rw [fines] at h
    exact fines_get (i := i) h.2 e
mutual
theorem Tr.fine_ops : ∀ t : Tr, t.fine → Ops t.ex
  | .op w as, h => by
    rw [Tr.fine] at h
    rw [Tr.ex]
    intro t m
    exact ⟨w, as, List.mem_singleton.mp m, h⟩
  | .loop k b, h => by
    rw [Tr.fine] at h
    rw [Tr.ex]
    intro t m
    obtain ⟨xs, m1, m2⟩ := List.mem_flatten.mp m
    rw [(List.mem_replicate.mp m1).2] at m2
    exact fines_ops b h.2 t m2
theorem fines_ops : ∀ b : List Tr, fines b → Ops (exs b)
  | [], _ => by rw [exs]; intro t m; cases m
  | t :: r, h => by
    rw [fines] at h
    rw [exs]
    intro u m
    rcases List.mem_append.mp m with m | m
    · exact Tr.fine_ops t h.1 u m
    · exact fines_ops r h.2 u m
end
theorem most0 : ∀ d, most d 0 = 1
  | 0 => rfl
  | d + 1 => by
    rw [most]
    show max 1 (3 * (0 * _)) = 1
    rw [Nat.zero_mul]
    rfl
theorem most_pos : ∀ d l, 1 ≤ most d l
  | 0, _ => Nat.le_refl 1
  | d + 1, l => by rw [most]; exact Nat.le_max_left _ _
mutual
theorem Tr.made_fine {G : Str → List Int → Prop} {R : Int → Prop} (hG : ∀ w as, G w as → w ∈ W7) (hR : ∀ k, R k → 0 ≤ k ∧ k ≤ 3) : ∀ (t : Tr) (l d : Nat), max 1 l * most d l ≤ 100000 → t.made G R l d → t.fine
  | .op w as, l, d, _, h => by
    rw [Tr.made] at h
    rw [Tr.fine]
    exact hG w as h
  | .loop k b, l, 0, _, h => by rw [Tr.made] at h; exact h.elim
  | .loop k b, l, d + 1, hb, h => by
    rw [Tr.made] at h
    rw [Tr.fine]
    have h1 : 3 * (l / 2 * most d (l / 2)) ≤ 100000 := by
      have h0 : most (d + 1) l ≤ 100000 := Nat.le_trans (Nat.le_mul_of_pos_left _ (by omega)) hb
      rw [most] at h0
      exact Nat.le_trans (Nat.le_max_right _ _) h0
    have h2 := mades_ex hR b (l / 2) d h.2.2
    have h3 : b.length * most d (l / 2) ≤ l / 2 * most d (l / 2) := Nat.mul_le_mul_right _ h.2.1
    refine ⟨by omega, mades_fine hG hR b (l / 2) d ?_ h.2.2⟩
    by_cases z : l / 2 = 0
    · rw [z, most0]
      decide
    · rw [show max 1 (l / 2) = l / 2 by omega]
      omega
theorem mades_fine {G : Str → List Int → Prop} {R : Int → Prop} (hG : ∀ w as, G w as → w ∈ W7) (hR : ∀ k, R k → 0 ≤ k ∧ k ≤ 3) : ∀ (b : List Tr) (l d : Nat), max 1 l * most d l ≤ 100000 → mades G R b l d → fines b
  | [], _, _, _, _ => by rw [fines]; trivial
  | t :: r, l, d, hl, h => by
    rw [mades] at h
    rw [fines]
    exact ⟨Tr.made_fine hG hR t l d hl h.1, mades_fine hG hR r l d hl h.2⟩
end
theorem mades_big {G : Str → List Int → Prop} {R : Int → Prop} (hR : ∀ k, R k → 0 ≤ k ∧ k ≤ 3) {b : List Tr} {l d : Nat} (hl : b.length ≤ l) (hm : max 1 l * most d l ≤ 100000) (h : mades G R b l d) : (exs b).length ≤ 100000 := by
  have h1 := mades_ex hR b l d h
  have h2 : b.length * most d l ≤ max 1 l * most d l := Nat.mul_le_mul_right _ (by omega)
  omega
theorem most84 : max 1 8 * most 4 8 ≤ 100000 := by decide
def spExec (K : PySem.W.Frag) (d : Nat) : Sp := fun vs H Q _ => ∃ v b, vs = [v] ∧ BodyAt K H b v ∧ okB d b ∧ fines b ∧ (exs b).length ≤ 100000 ∧
  ∀ H' l us, Same H H' → H l = none → H' l = some (.lst us) → TrsAt K H' (exs b) us → Q (.ref l) H'
end Lj
set_option Elab.async false
set_option linter.all false
set_option maxRecDepth 100000
namespace Lj
open PySem PySem.Spec PyProof.Rows L2
theorem iteNN {c A B : Prop} [Decidable c] (h : ¬ c) (a : A) : if (!decide c) = true then A else B := by
  rw [decide_eq_false h]
  exact a
/-! ### repr of lists of numbers -/
/-- a number, None, a truth value, shown in a few signs -/
def Leaf (d : PyData) : Prop := d.showable = true ∧ d.hasDict = false ∧ d.depth = 0 ∧ d.shown.length ≤ 1921
theorem leaf_int {i : Int} (h : i.natAbs.log2 < 1920) : Leaf (.int i) := ⟨by rw [PyData.showable]; exact decide_eq_true h, by rw [PyData.hasDict], by rw [PyData.depth], by rw [PyData.shown]; exact int_text_len_1921 h⟩
theorem leaf_none : Leaf .none := ⟨by rw [PyData.showable], by rw [PyData.hasDict], by rw [PyData.depth], by rw [PyData.shown]; decide⟩
theorem leaf_all : ∀ {ds : List PyData}, (∀ d ∈ ds, Leaf d) → PyData.showableAll ds = true ∧ PyData.hasDictAll ds = false ∧ PyData.depthAll ds = 0 ∧ ((PyData.shownAll ds).map (·.length)).sum ≤ 1921 * ds.length ∧ (PyData.shownAll ds).length = ds.length
  | [], _ => ⟨by rw [PyData.showableAll], by rw [PyData.hasDictAll], by rw [PyData.depthAll], by rw [PyData.shownAll]; exact Nat.zero_le _, by rw [PyData.shownAll]; rfl⟩
  | d :: r, h => by
    obtain ⟨a1, a2, a3, a4⟩ := h d List.mem_cons_self
    obtain ⟨b1, b2, b3, b4, b5⟩ := leaf_all (ds := r) fun x m => h x (List.mem_cons_of_mem _ m)
    refine ⟨by rw [PyData.showableAll, a1, b1]; rfl, by rw [PyData.hasDictAll, a2, b2]; rfl, by rw [PyData.depthAll, a3, b3]; rfl, ?_, by rw [PyData.shownAll, List.length_cons, b5, List.length_cons]⟩
    rw [PyData.shownAll, List.map_cons, List.sum_cons, List.length_cons]
    omega
theorem leaf_list {ds : List PyData} (h : ∀ d ∈ ds, Leaf d) (n : ds.length ≤ 8000) : (PyData.list ds).showable = true ∧ (PyData.list ds).hasDict = false ∧ (PyData.list ds).depth ≤ 64 ∧ (PyData.list ds).shown.length ≤ sizeLine := by
  obtain ⟨b1, b2, b3, b4, b5⟩ := leaf_all h
  refine ⟨by rw [PyData.showable]; exact b1, by rw [PyData.hasDict]; exact b2, by rw [PyData.depth, b3]; decide, ?_⟩
  rw [PyData.shown, sizeLine_eq]
  have := PySem.listText_len_le (PyData.shownAll ds)
  omega
theorem dp_int_list {K : PySem.W.Frag} {H : Hp} {a : Addr} {ns : List Int} (h : SqL K H a (ns.map V.int)) : Dp K H (.ref a) (.list (ns.map PyData.int)) := .lst h (dp_ints ns)
theorem log_of {i : Int} {k : Nat} (h : i.natAbs < 2 ^ k) (k0 : 0 < k) (k1 : k ≤ 1920) : i.natAbs.log2 < 1920 := Nat.lt_of_lt_of_le (PySem.Flt.log2_lt_of k0 h) k1
theorem leaf_ints {ns : List Int} (h : ∀ n ∈ ns, n.natAbs < 2 ^ 1000) : ∀ d ∈ ns.map PyData.int, Leaf d := by
  intro d m
  obtain ⟨n, hn, rfl⟩ := List.mem_map.mp m
  exact leaf_int (log_of (h n hn) (by decide) (by decide))
/-! ### bounds -/
def top : Nat → Int
  | 0 => 1
  | d + 1 => 10 ^ 18 * (1000 * top d)
theorem top_pos : ∀ d, 1 ≤ top d
  | 0 => by decide
  | d + 1 => by
    have := top_pos d
    rw [top]
    omega
mutual
theorem Tr.len_bd : ∀ (t : Tr) (d : Nat), t.wf d → 0 ≤ t.len ∧ t.len ≤ top d
  | .op w as, d, _ => by
    rw [Tr.len]
    exact ⟨by decide, top_pos d⟩
  | .loop k b, 0, h => by rw [Tr.wf] at h; exact h.elim
  | .loop k b, d + 1, h => by
    rw [Tr.wf] at h
    obtain ⟨i0, i1⟩ := lens_bd b d h.2.2.2
    have tp := top_pos d
    have i2 : lens b ≤ 1000 * top d := Int.le_trans i1 (Int.mul_le_mul_of_nonneg_right (by omega) (by omega))
    rw [Tr.len, top]
    exact ⟨Int.mul_nonneg h.1 i0, Int.mul_le_mul h.2.1 i2 i0 (by decide)⟩
theorem lens_bd : ∀ (b : List Tr) (d : Nat), wfs b d → 0 ≤ lens b ∧ lens b ≤ (b.length : Int) * top d
  | [], d, _ => by rw [lens]; exact ⟨by decide, by simp⟩
  | t :: r, d, h => by
    rw [wfs] at h
    obtain ⟨a0, a1⟩ := Tr.len_bd t d h.1
    obtain ⟨b0, b1⟩ := lens_bd r d h.2
    rw [lens, List.length_cons]
    refine ⟨by omega, ?_⟩
    rw [show ((r.length + 1 : Nat) : Int) = (r.length : Int) + 1 from rfl, Int.add_mul, Int.one_mul]
    omega
end
mutual
theorem Tr.cnt_bd (z : Str) : ∀ (t : Tr) (d : Nat), t.wf d → 0 ≤ t.cnt z ∧ t.cnt z ≤ t.len
  | .op w as, d, _ => by
    rw [Tr.len, Tr.cnt]
    split <;> exact ⟨by decide, by decide⟩
  | .loop k b, 0, h => by rw [Tr.wf] at h; exact h.elim
  | .loop k b, d + 1, h => by
    rw [Tr.wf] at h
    obtain ⟨i0, i1⟩ := cnts_bd z b d h.2.2.2
    rw [Tr.len, Tr.cnt]
    exact ⟨Int.mul_nonneg h.1 i0, Int.mul_le_mul_of_nonneg_left i1 h.1⟩
theorem cnts_bd (z : Str) : ∀ (b : List Tr) (d : Nat), wfs b d → 0 ≤ cnts z b ∧ cnts z b ≤ lens b
  | [], d, _ => by rw [lens, cnts]; exact ⟨by decide, by decide⟩
  | t :: r, d, h => by
    rw [wfs] at h
    obtain ⟨a0, a1⟩ := Tr.cnt_bd z t d h.1
    obtain ⟨b0, b1⟩ := cnts_bd z r d h.2
    rw [lens, cnts]
    omega
end
mutual
theorem Tr.inn_bd : ∀ (t : Tr) (d : Nat), t.wf d → 0 ≤ t.inn ∧ t.inn ≤ top d
  | .op w as, d, _ => by
    rw [Tr.inn]
    have := top_pos d
    omega
  | .loop k b, 0, h => by rw [Tr.wf] at h; exact h.elim
  | .loop k b, d + 1, h => by
    rw [Tr.wf] at h
    obtain ⟨i0, i1⟩ := inns_bd b d h.2.2.2
    have tp := top_pos d
    have i2 : inns b ≤ 1000 * top d := Int.le_trans i1 (Int.mul_le_mul_of_nonneg_right (by omega) (by omega))
    rw [Tr.inn, top]
    omega
theorem inns_bd : ∀ (b : List Tr) (d : Nat), wfs b d → 0 ≤ inns b ∧ inns b ≤ (b.length : Int) * top d
  | [], d, _ => by rw [inns]; exact ⟨by decide, by simp⟩
  | t :: r, d, h => by
    rw [wfs] at h
    obtain ⟨a0, a1⟩ := Tr.inn_bd t d h.1
    obtain ⟨b0, b1⟩ := inns_bd r d h.2
    rw [inns, List.length_cons]
    refine ⟨by omega, ?_⟩
    rw [show ((r.length + 1 : Nat) : Int) = (r.length : Int) + 1 from rfl, Int.add_mul, Int.one_mul]
    omega
end
mutual
theorem Tr.dep_bd : ∀ (t : Tr) (d : Nat), t.wf d → t.dep ≤ d
  | .op w as, d, _ => by rw [Tr.dep]; omega
  | .loop k b, 0, h => by rw [Tr.wf] at h; exact h.elim
  | .loop k b, d + 1, h => by
    rw [Tr.wf] at h
    have := deps_bd b d h.2.2.2
    rw [Tr.dep]
    omega
theorem deps_bd : ∀ (b : List Tr) (d : Nat), wfs b d → deps b ≤ d
  | [], d, _ => by rw [deps]; omega
  | t :: r, d, h => by
    rw [wfs] at h
    have h1 := Tr.dep_bd t d h.1
    have h2 := deps_bd r d h.2
    rw [deps]
    split <;> omega
end
theorem lens_log {b : List Tr} {d : Nat} (h : okB (d + 1) b) (hd : d ≤ 6) : (lens b).natAbs < 2 ^ 1000 := by
  obtain ⟨h0, h1⟩ := lens_bd b d h.1
  have tp := top_pos d
  have h2 : lens b ≤ 1000 * top d := Int.le_trans h1 (Int.mul_le_mul_of_nonneg_right (by have := h.2; omega) (by omega))
  have h3 : 1000 * top d < 2 ^ 1000 := by
    have : d = 0 ∨ d = 1 ∨ d = 2 ∨ d = 3 ∨ d = 4 ∨ d = 5 ∨ d = 6 := by omega
    rcases this with rfl | rfl | rfl | rfl | rfl | rfl | rfl <;> decide +kernel
  omega
/-! ### once, and with great rounds -/
mutual
def Tr.once : Tr → Tr
  | .op w as => .op w as
  | .loop _ b => .loop 1 (onces b)
def onces : List Tr → List Tr
  | [] => []
  | t :: r => t.once :: onces r
end
theorem onces_map : ∀ b : List Tr, onces b = b.map Tr.once
  | [] => by rw [onces]; rfl
  | t :: r => by rw [onces, onces_map r]; rfl
mutual
theorem Tr.made_once {G : Str → List Int → Prop} {R : Int → Prop} : ∀ (t : Tr) (l d : Nat), t.made G R l d → t.once.made G (fun k => k = 1) l d
  | .op w as, l, d, h => by
    rw [Tr.made] at h
    rw [Tr.once, Tr.made]
    exact h
  | .loop k b, l, 0, h => by rw [Tr.made] at h; exact h.elim
  | .loop k b, l, d + 1, h => by
    rw [Tr.made] at h
    rw [Tr.once, Tr.made]
    exact ⟨rfl, by rw [onces_map, List.length_map]; exact h.2.1, mades_once b (l / 2) d h.2.2⟩
theorem mades_once {G : Str → List Int → Prop} {R : Int → Prop} : ∀ (b : List Tr) (l d : Nat), mades G R b l d → mades G (fun k => k = 1) (onces b) l d
  | [], l, d, _ => by rw [onces]; exact mades_nil
  | t :: r, l, d, h => by
    rw [mades] at h
    rw [onces, mades]
    exact ⟨Tr.made_once t l d h.1, mades_once r l d h.2⟩
end
/-- no step of the word z, were each loop executed once -/
def NoW (z : Str) (b : List Tr) : Prop := z ∉ (exs (onces b)).map Tr.word
mutual
theorem Tr.noW (z : Str) : ∀ t : Tr, z ∉ (t.once.ex).map Tr.word → t.cnt z = 0
  | .op w as, h => by
    rw [Tr.once, Tr.ex] at h
    rw [Tr.cnt, if_neg]
    intro e
    exact h (by subst e; exact List.mem_singleton.mpr rfl)
  | .loop k b, h => by
    rw [Tr.once, Tr.ex] at h
    rw [Tr.cnt, noWs z b (by
      intro m
      refine h ?_
      show z ∈ (List.flatten [exs (onces b)]).map Tr.word
      rw [List.flatten_cons, List.flatten_nil, List.append_nil]
      exact m), Int.mul_zero]
theorem noWs (z : Str) : ∀ b : List Tr, NoW z b → cnts z b = 0
  | [], _ => by rw [cnts]
  | t :: r, h => by
    unfold NoW at h
    rw [onces, exs, List.map_append, List.mem_append] at h
    rw [cnts, Tr.noW z t (fun m => h (.inl m)), noWs z r (fun m => h (.inr m))]
    rfl
end
mutual
/-- the same but for rounds, and these only where nothing is read or written -/
def Tr.gr : Tr → Tr → Prop
  | .op w as, t => t = .op w as
  | .loop k b, t => ∃ k' b', t = .loop k' b' ∧ 0 ≤ k' ∧ k' ≤ 10 ^ 18 ∧ grs b b' ∧ (k' = k ∨ (NoW "read" b' ∧ NoW "write" b'))
def grs : List Tr → List Tr → Prop
  | [], g => g = []
  | t :: r, g => ∃ t' r', g = t' :: r' ∧ t.gr t' ∧ grs r r'
end
theorem grs_snoc : ∀ {b g : List Tr} {t t' : Tr}, grs b g → t.gr t' → grs (b ++ [t]) (g ++ [t'])
  | [], g, t, t', h, k => by
    rw [grs] at h
    rw [h]
    show grs [t] [t']
    rw [grs]
    exact ⟨t', [], rfl, k, by rw [grs]⟩
  | a :: r, g, t, t', h, k => by
    rw [grs] at h
    obtain ⟨a', r', rfl, h1, h2⟩ := h
    show grs (a :: (r ++ [t])) (a' :: (r' ++ [t']))
    rw [grs]
    exact ⟨a', _, rfl, h1, grs_snoc h2 k⟩
mutual
theorem Tr.gr_all : ∀ (t t' : Tr), t.gr t' → t'.once = t.once ∧ t'.inn = t.inn ∧ t'.dep = t.dep ∧ (∀ d, t.wf d → t'.wf d) ∧ (∀ G R l d, t.made G R l d → t'.made G (fun k => R k ∨ (0 ≤ k ∧ k ≤ 10 ^ 18)) l d) ∧ ((t.cnt "read" = t'.cnt "read") ∧ (t.cnt "write" = t'.cnt "write"))
  | .op w as, t', h => by
    rw [Tr.gr] at h
    subst h
    refine ⟨rfl, rfl, rfl, fun _ h => h, fun G R l d h => ?_, rfl, rfl⟩
    rw [Tr.made] at h ⊢
    exact h
  | .loop k b, t', h => by
    rw [Tr.gr] at h
    obtain ⟨k', b', rfl, k0, k1, hg, hk⟩ := h
    obtain ⟨e1, e2, e3, e4, e5, e6, e7⟩ := grs_all b b' hg
    refine ⟨by rw [Tr.once, Tr.once, e1], by rw [Tr.inn, Tr.inn, e2, e7.1], by rw [Tr.dep, Tr.dep, e3], fun d h => ?_, fun G R l d h => ?_, ?_⟩
    · cases d with
      | zero => rw [Tr.wf] at h; exact h.elim
      | succ d =>
        rw [Tr.wf] at h ⊢
        exact ⟨k0, k1, by rw [e7.1]; exact h.2.2.1, e4 d h.2.2.2⟩
    · cases d with
      | zero => rw [Tr.made] at h; exact h.elim
      | succ d =>
        rw [Tr.made] at h ⊢
        exact ⟨.inr ⟨k0, k1⟩, by rw [e7.1]; exact h.2.1, e5 G R _ _ h.2.2⟩
    · rw [Tr.cnt, Tr.cnt, Tr.cnt, Tr.cnt]
      rcases hk with rfl | ⟨n1, n2⟩
      · rw [e6.1, e6.2]
        exact ⟨rfl, rfl⟩
      · rw [e6.1, e6.2, noWs _ b' n1, noWs _ b' n2, Int.mul_zero, Int.mul_zero]
        exact ⟨rfl, rfl⟩
theorem grs_all : ∀ (b g : List Tr), grs b g → onces g = onces b ∧ inns g = inns b ∧ deps g = deps b ∧ (∀ d, wfs b d → wfs g d) ∧ (∀ G R l d, mades G R b l d → mades G (fun k => R k ∨ (0 ≤ k ∧ k ≤ 10 ^ 18)) g l d) ∧ ((cnts "read" b = cnts "read" g) ∧ (cnts "write" b = cnts "write" g)) ∧ (g.length = b.length ∧ True)
  | [], g, h => by
    rw [grs] at h
    subst h
    exact ⟨rfl, rfl, rfl, fun _ h => h, fun _ _ _ _ _ => mades_nil, ⟨rfl, rfl⟩, rfl, trivial⟩
  | t :: r, g, h => by
    rw [grs] at h
    obtain ⟨t', r', rfl, h1, h2⟩ := h
    obtain ⟨a1, a2, a3, a4, a5, a6⟩ := Tr.gr_all t t' h1
    obtain ⟨e1, e2, e3, e4, e5, e6, e7⟩ := grs_all r r' h2
    refine ⟨by rw [onces, onces, a1, e1], by rw [inns, inns, a2, e2], by rw [deps, deps, a3, e3], fun d h => ?_, fun G R l d h => ?_, ⟨by rw [cnts, cnts, a6.1, e6.1], by rw [cnts, cnts, a6.2, e6.2]⟩, by rw [List.length_cons, List.length_cons, e7.1], trivial⟩
    · rw [wfs] at h ⊢
      exact ⟨a4 d h.1, e4 d h.2⟩
    · rw [mades] at h ⊢
      exact ⟨a5 G R l d h.1, e5 G R l d h.2⟩
end
theorem shaped_ints (ns : List Int) : SeqAt.shaped (.list (ns.map PyData.int)) = true := by
  unfold SeqAt.shaped
  rw [PyData.canLay0, lay_ints, PyData.depth, depth_ints]
  rfl
theorem same_but {H H1 H2 : Hp} {u : Addr} (s : Same H H1) (n : H u = none) (b : But u H1 H2) : Same H H2 := fun x o e => b x o (ne_of_none e n) (s x o e)
/-- one parameter, given by its name -/
theorem kb1 {K : PySem.W.Frag} {x p : Str} {st : Stmt} {f : Addr} {fd : FuncData} (F : Fun K x x st f fd)
    (h : ∀ (kV doc pm : Value) (an : Option Addr) (cdv ct u : Value), bindArgs (PySem.W.fnOf x x (defArgs st) (defBody st) (defScope st) .none kV doc pm an cdv ct) ⟨[], [(p, u)]⟩ = pure [(p, u)]) :
    KBinds K fd [p] [p] (fun us ws => if us.isEmpty then ws else []) (fun us ws => if us.isEmpty then ws else []) := by
  obtain ⟨oc, od, kV, doc, pm, an, cdv, ct, osl, rfl, lk, hcd⟩ := F.ex
  refine ⟨fun s us ws _ hl => ?_, fun {vs us zs ws} r rz => ?_⟩
  · cases us with
    | cons u r =>
      rw [show (u :: r).isEmpty = false from rfl, if_neg Bool.false_ne_true] at hl
      cases hl
    | nil =>
      match ws, hl with
      | [_], _ => exact .of_eq (h ..)
  · cases r with
    | nil => exact rz
    | cons _ _ => exact .nil
end Lj
namespace Lj
mutual
theorem Tr.wf_up : ∀ (t : Tr) (n : Nat), t.wf n → t.wf (n + 1)
  | .op w as, n, h => by
    rw [Tr.wf] at h ⊢
    exact h
  | .loop k b, 0, h => by rw [Tr.wf] at h; exact h.elim
  | .loop k b, n + 1, h => by
    rw [Tr.wf] at h ⊢
    exact ⟨h.1, h.2.1, h.2.2.1, wfs_up' b n h.2.2.2⟩
theorem wfs_up' : ∀ (b : List Tr) (n : Nat), wfs b n → wfs b (n + 1)
  | [], n, _ => by rw [wfs]; trivial
  | t :: r, n, h => by
    rw [wfs] at h ⊢
    exact ⟨Tr.wf_up t n h.1, wfs_up' r n h.2⟩
end
theorem wfs_up {b : List Tr} {n : Nat} (h : wfs b n) : wfs b (n + 1) := wfs_up' b n h
end Lj
set_option Elab.async false
set_option linter.all false
set_option maxRecDepth 100000
namespace Lj
open PySem PySem.Spec PyProof.Rows L2
/-! ### data of any kind, dicts too -/
def kD : Key → PyData
  | .inl i => .int i
  | .inr x => .str x
mutual
inductive Dd (K : PySem.W.Frag) (H : Hp) : V → PyData → Prop
  | non : Dd K H .non .none
  | bl (b : Bool) : Dd K H (.bl b) (.bool b)
  | int (i : Int) : Dd K H (.int i) (.int i)
  | str (x : Str) : Dd K H (.str x) (.str x)
  | lst {a : Addr} {xs : List V} {ds : List PyData} (q : SqL K H a xs) (r : DdAll K H xs ds) : Dd K H (.ref a) (.list ds)
  | tup {a : Addr} {xs : List V} {ds : List PyData} (q : SqT K H a xs) (r : DdAll K H xs ds) : Dd K H (.ref a) (.tuple ds)
  | dct {a : Addr} {kvs : List (Key × V)} {kds : List (PyData × PyData)} (q : H a = some (.dK kvs)) (e : kvs.map (fun kv => kD kv.1) = kds.map (·.1)) (r : DdAll K H (kvs.map (·.2)) (kds.map (·.2))) : Dd K H (.ref a) (.dict kds)
inductive DdAll (K : PySem.W.Frag) (H : Hp) : List V → List PyData → Prop
  | nil : DdAll K H [] []
  | cons {v : V} {vs : List V} {d : PyData} {ds : List PyData} (h : Dd K H v d) (t : DdAll K H vs ds) : DdAll K H (v :: vs) (d :: ds)
end
section
variable {X : Cx} {pins : List (Addr × Obj)} {σ : L2.St} {H : Hp} {s : Shared}
/-- the keys of a dict, as texts -/
theorem keys_show {P : Program} {w : World} {h : Heap} {n : Nat} : ∀ {es : List DictEntry} {vs : List (Key × Value)} {ks : List PyData}, Pairs (mixKind P w) es vs → vs.map (fun kv => kD kv.1) = ks → PyData.showableAll ks = true → (∀ t ∈ PyData.shownAll ks, t.length ≤ sizeLine) →
    (∃ as, ReadsAll h (es.map (·.key)) ks as) ∧ ReprAllK P w [] h n (es.map (·.key)) (PyData.shownAll ks) := by
  intro es vs ks hp
  induction hp generalizing ks with
  | nil =>
    rintro rfl _ _
    exact ⟨⟨_, .nil⟩, .nil⟩
  | @cons e kv es kvs hk hv _ ih =>
    rintro rfl hs hz
    simp only [List.map_cons, PyData.showableAll, Bool.and_eq_true] at hs
    obtain ⟨⟨as, i1⟩, i2⟩ := ih rfl hs.2 fun t m => hz t (by simp only [List.map_cons, PyData.shownAll]; exact List.mem_cons_of_mem _ m)
    have hz0 := hz (kD kv.1).shown (by simp only [List.map_cons, PyData.shownAll]; exact List.mem_cons_self ..)
    rcases keyIs_shape hk with ⟨i, t, e1, e2⟩ | ⟨x, t, e1, e2⟩
    · rw [e1] at hs hz0
      refine ⟨⟨[] ++ as, ?_⟩, ?_⟩
      · simp only [List.map_cons, e1, e2]
        exact .cons (.int i t) i1
      · simp only [List.map_cons, e1, e2, PyData.shownAll]
        exact .cons (.of_is (ReprIs.int t (of_decide_eq_true hs.1)) _ _ _) i2
    · rw [e1] at hs hz0
      refine ⟨⟨[] ++ as, ?_⟩, ?_⟩
      · simp only [List.map_cons, e1, e2]
        exact .cons (.str x t) i1
      · simp only [List.map_cons, e1, e2, PyData.shownAll]
        exact .cons (.of_is (ReprIs.str x t hz0) _ _ _) i2
theorem vals_of_pairs {P : Program} {w : World} : ∀ {es : List DictEntry} {vs : List (Key × Value)} {kvs : List (Key × V)}, Pairs (mixKind P w) es vs → KV kvs vs → Vals (kvs.map (·.2)) (es.map (·.val)) ∧ vs.map (fun kv => kD kv.1) = kvs.map (fun kv => kD kv.1) := by
  intro es vs kvs hp
  induction hp generalizing kvs with
  | nil =>
    intro r
    cases r
    exact ⟨.nil, rfl⟩
  | @cons e kv es vs hk hv _ ih =>
    intro r
    cases r with
    | @cons p _ ps _ h t =>
      obtain ⟨i1, i2⟩ := ih t
      exact ⟨.cons (by show RelV p.2 e.val; rw [hv]; exact h.2) i1, by simp only [List.map_cons, i2, h.1]⟩
/-- what is known of a thing to be shown -/
def Sho (P : Program) (w : World) (h : Heap) (u : Value) (d : PyData) : Prop := (∃ as, Reads h u d as) ∧ ∃ bs, ReadAtMost h d.depth bs ∧ ReprK P w bs h d.depth u d.shown
def ShoAll (P : Program) (w : World) (h : Heap) (us : List Value) (ds : List PyData) : Prop := (∃ as, ReadsAll h us ds as) ∧ ∃ bs, ReadAtMost h (PyData.depthAll ds) bs ∧ ReprAllK P w bs h (PyData.depthAll ds) us (PyData.shownAll ds)
theorem no_at {h : Heap} {n : Nat} : ReadAtMost h n [] := fun _ m => nomatch m
mutual
theorem Dd.sho (I : Inv X pins σ H s) : ∀ {v : V} {d : PyData} {u : Value}, Dd X.K H v d → RelV v u → d.showable = true → d.shown.length ≤ sizeLine → Sho X.prog X.w s.heap u d
  | _, _, _, .non, r, _, _ => by
    cases r
    exact ⟨⟨_, .none⟩, [], no_at, .of_is ReprIs.none _ _ _⟩
  | _, _, _, .bl b, r, _, _ => by
    cases r
    exact ⟨⟨_, .bool b⟩, [], no_at, .of_is (ReprIs.bool b) _ _ _⟩
  | _, _, _, .int i, r, hs, _ => by
    obtain ⟨t, rfl⟩ := r
    exact ⟨⟨_, .int i t⟩, [], no_at, .of_is (ReprIs.int t (of_decide_eq_true hs)) _ _ _⟩
  | _, _, _, .str x, r, _, hz => by
    obtain ⟨t, rfl⟩ := r
    exact ⟨⟨_, .str x t⟩, [], no_at, .of_is (ReprIs.str x t hz) _ _ _⟩
  | _, _, _, .lst (a := a) (xs := xs) (ds := ds) q rr, r, hs, hz => by
    cases r
    obtain ⟨its, rv, ⟨o, n, ho, hc, _, hd⟩, _⟩ := I.list q
    obtain ⟨⟨as, rd⟩, bs, rb, rk⟩ := Dd.shoAll I rr rv hs fun t m => Nat.le_trans (listText_mem_le m) hz
    have top : Reads s.heap (.ref a) (.list ds) (a :: as) := .list ho hc hd rd
    refine ⟨⟨_, top⟩, a :: bs, ReadAtMost.cons top (Nat.le_succ _) rb, ?_⟩
    cases its with
    | nil =>
      cases rd
      exact ReprK.listEmpty ho hc hd
    | cons x l => exact ReprK.list ho hc hd (not_mem_of_deeper top (Nat.lt_succ_self _) rb) rk.length_eq fun i y e => rk.item i y (by rw [List.getElem?_toArray] at e; exact e)
  | _, _, _, .tup (a := a) (xs := xs) (ds := ds) q rr, r, hs, hz => by
    cases r
    obtain ⟨its, rv, ⟨o, ho, hc, n, hd⟩, _⟩ := I.tuple q
    obtain ⟨⟨as, rd⟩, bs, rb, rk⟩ := Dd.shoAll I rr rv hs fun t m => Nat.le_trans (tupleText_mem_le m) hz
    have top : Reads s.heap (.ref a) (.tuple ds) as := .tuple ho hc hd rd
    exact ⟨⟨_, top⟩, a :: bs, ReadAtMost.cons top (Nat.le_succ _) rb, ReprK.tuple ho hc hd (not_mem_of_deeper top (Nat.lt_succ_self _) rb) rk⟩
  | _, _, _, .dct (a := a) (kvs := kvs) (kds := kds) q e rr, r, hs, hz => by
    cases r
    obtain ⟨_, hsys, vs, kv, o, es, ep, ho, hc, hd, _, hp, _⟩ := (show ObjOk X.prog X.w H s.heap a (.dK kvs) from I.hok a _ q)
    obtain ⟨s1, s2⟩ := PyData.showableKv_split kds hs
    obtain ⟨v1, v2⟩ := vals_of_pairs hp kv
    obtain ⟨⟨as, rd⟩, bs, rb, rk⟩ := Dd.shoAll I rr v1 s2 fun t m => by
      obtain ⟨p, mp, hl⟩ := PyData.shownKv_val_le kds t m
      exact Nat.le_trans hl (Nat.le_trans (dictText_mem_le mp) hz)
    obtain ⟨⟨as2, kr⟩, kk⟩ := keys_show (h := s.heap) (n := PyData.depthKv kds) hp (v2.trans e) s1 fun t m => by
      obtain ⟨p, mp, hl⟩ := PyData.shownKv_key_le kds t m
      exact Nat.le_trans hl (Nat.le_trans (dictText_mem_le mp) hz)
    have top : Reads s.heap (.ref a) (.dict kds) (a :: as2 ++ as) := .dict ho hc.1 hd kr rd
    have rb' := rb.mono (PyData.depthAll_vals_le kds)
    refine ⟨⟨_, top⟩, a :: bs, ReadAtMost.cons top (Nat.le_succ _) rb', ?_⟩
    have nm : a ∉ bs := not_mem_of_deeper top (Nat.lt_succ_self _) rb'
    have en := ReprEntriesK.of_two es.toList _ _ (kk.more_le (fun b (hb : b ∈ ([] : List Addr)) => absurd hb List.not_mem_nil) (Nat.le_refl _)) (rk.more_le (fun b hb => hb) (PyData.depthAll_vals_le kds))
    rw [← PyData.shownKv_eq] at en
    exact ReprK.dict ho hc.1 hd hsys nm en
theorem Dd.shoAll (I : Inv X pins σ H s) : ∀ {vs : List V} {ds : List PyData} {us : List Value}, DdAll X.K H vs ds → Vals vs us → PyData.showableAll ds = true → (∀ t ∈ PyData.shownAll ds, t.length ≤ sizeLine) → ShoAll X.prog X.w s.heap us ds
  | _, _, _, .nil, r, _, _ => by
    cases r
    exact ⟨⟨_, .nil⟩, [], no_at, .nil⟩
  | _, _, _, .cons (d := d) (ds := ds) h t, .cons r1 r2, hs, hz => by
    have hs' : (d.showable && PyData.showableAll ds) = true := hs
    rw [Bool.and_eq_true] at hs'
    obtain ⟨⟨as, a1⟩, bs, b1, k1⟩ := Dd.sho I h r1 hs'.1 (hz _ (List.mem_cons_self ..))
    obtain ⟨⟨as2, a2⟩, bs2, b2, k2⟩ := Dd.shoAll I t r2 hs'.2 fun t m => hz t (List.mem_cons_of_mem _ m)
    refine ⟨⟨_, .cons a1 a2⟩, bs ++ bs2, (b1.mono (Nat.le_max_left _ _)).append (b2.mono (Nat.le_max_right _ _)), .cons ?_ ?_⟩
    · exact (k1.more fun b m => List.mem_append_left _ m).level_le (Nat.le_max_left _ _)
    · exact k2.more_le (fun b m => List.mem_append_right _ m) (Nat.le_max_right _ _)
end
end
/-- repr of data of any kind -/
theorem repr_any {X : Cx} {pins : List (Addr × Obj)} {σ : L2.St} {H : Hp} {s : Shared} {v : V} {u : Value} {d : PyData} {A : Around} {E : Value → Shared → Prop} {Q : Value → Shared → Prop} (I : Inv X pins σ H s) (dd : Dd X.K H v d) (r : RelV v u) (sh : d.showable = true) (hg : A.guards = some []) (hu : A.units + (d.depth + 1) < cLine) (sz : d.shown.length ≤ sizeLine)
    (hQ : ∀ h' t tk, (∀ b o, s.heap.get? b = some o → h'.get? b = some o) → Q (.str d.shown t) { s with heap := h', toks := tk }) : wpAny (model X.prog X.w) A (call (.builtin "repr") [u]) Q E s := by
  have no : ∀ b o, s.heap.get? b = some o → s.heap.get? b = some o := fun _ _ e => e
  cases dd with
  | non =>
    cases r
    exact _root_.PySem.P.repr_of_none (hQ s.heap s.toks (s.toks + 1) no)
  | bl b =>
    cases r
    refine _root_.PySem.P.repr_of_bool ?_
    cases b
    · exact hQ s.heap s.toks (s.toks + 1) no
    · exact hQ s.heap s.toks (s.toks + 1) no
  | int i =>
    obtain ⟨t, rfl⟩ := r
    exact _root_.PySem.P.repr_of_int (of_decide_eq_true sh) (hQ s.heap s.toks (s.toks + 1) no)
  | str x =>
    obtain ⟨t, rfl⟩ := r
    exact _root_.PySem.P.repr_of_str (hQ s.heap s.toks (s.toks + 1) no) sz
  | @lst a xs ds q rr =>
    cases r
    obtain ⟨its, rv, ⟨o, n, ho, hc, _, hd⟩, _⟩ := I.list q
    obtain ⟨⟨as, rd⟩, bs, rb, rk⟩ := Dd.shoAll I rr rv sh fun t m => Nat.le_trans (listText_mem_le m) sz
    have top : Reads s.heap (.ref a) (.list ds) (a :: as) := .list ho hc hd rd
    have nm := not_mem_of_deeper top (Nat.lt_succ_self _) rb
    have hu' : A.units + (PyData.depthAll ds + 1 + 1) < cLine := hu
    refine call_repr_slot (T := "list") (by omega) ⟨o, ho, hc⟩ F.slot_list_repr.toG ?_
    cases its with
    | nil =>
      cases rd
      exact call_list_repr_empty ⟨o, ho, hc⟩ ho hd ⟨_, _, rfl, hQ s.heap _ _ no⟩
    | cons x l => exact call_list_reprK (A := A.in1) ho hc hd nm rk.length_eq (fun i y e => rk.item i y (by rw [List.getElem?_toArray] at e; exact e)) hg (fun b _ => Clear.nil b) (by show A.units + 1 + _ < cLine; omega) no (fun h' t tk k => ⟨_, _, rfl, hQ h' t tk k⟩) sz
  | @tup a xs ds q rr =>
    cases r
    obtain ⟨its, rv, ⟨o, ho, hc, n, hd⟩, _⟩ := I.tuple q
    obtain ⟨⟨as, rd⟩, bs, rb, rk⟩ := Dd.shoAll I rr rv sh fun t m => Nat.le_trans (tupleText_mem_le m) sz
    have top : Reads s.heap (.ref a) (.tuple ds) as := .tuple ho hc hd rd
    have nm := not_mem_of_deeper top (Nat.lt_succ_self _) rb
    have hu' : A.units + (PyData.depthAll ds + 1 + 1) < cLine := hu
    exact call_repr_slot (T := "tuple") (by omega) ⟨o, ho, hc⟩ F.slot_tuple_repr (call_tuple_reprK (A := A.in1) ho hc hd nm rk hg (fun b _ => Clear.nil b) (by show A.units + 1 + _ < cLine; omega) no (fun h' t tk k => ⟨_, _, rfl, hQ h' t tk k⟩) sz)
  | @dct a kvs kds q e rr =>
    cases r
    obtain ⟨_, hsys, vs, kv, o, es, ep, ho, hc, hd, _, hp, _⟩ := (show ObjOk X.prog X.w H s.heap a (.dK kvs) from I.hok a _ q)
    obtain ⟨s1, s2⟩ := PyData.showableKv_split kds sh
    obtain ⟨v1, v2⟩ := vals_of_pairs hp kv
    obtain ⟨⟨as, rd⟩, bs, rb, rk⟩ := Dd.shoAll I rr v1 s2 fun t m => by
      obtain ⟨p, mp, hl⟩ := PyData.shownKv_val_le kds t m
      exact Nat.le_trans hl (Nat.le_trans (dictText_mem_le mp) sz)
    obtain ⟨⟨as2, kr⟩, kk⟩ := keys_show (h := s.heap) (n := PyData.depthKv kds) hp (v2.trans e) s1 fun t m => by
      obtain ⟨p, mp, hl⟩ := PyData.shownKv_key_le kds t m
      exact Nat.le_trans hl (Nat.le_trans (dictText_mem_le mp) sz)
    have top : Reads s.heap (.ref a) (.dict kds) (a :: as2 ++ as) := .dict ho hc.1 hd kr rd
    have nm : a ∉ bs := not_mem_of_deeper top (Nat.lt_succ_self _) (rb.mono (PyData.depthAll_vals_le kds))
    have en := ReprEntriesK.of_two es.toList _ _ (kk.more_le (fun b (hb : b ∈ ([] : List Addr)) => absurd hb List.not_mem_nil) (Nat.le_refl _)) (rk.more_le (fun b hb => hb) (PyData.depthAll_vals_le kds))
    rw [← PyData.shownKv_eq] at en
    have hu' : A.units + (PyData.depthKv kds + 1 + 1) < cLine := hu
    exact call_repr_slot (T := "dict") (by omega) ⟨o, ho, hc.1⟩ F.slot_dict_repr (call_dict_reprK (A := A.in1) ho hc.1 hd hsys nm en hg (fun b _ => Clear.nil b) (by show A.units + 1 + _ < cLine; omega) no (fun h' t tk k => ⟨_, _, rfl, hQ h' t tk k⟩) sz)
def rReprA (K : PySem.W.Frag) : List V → Hp → VK → Prop := fun xs H Q => ∃ x d, xs = [x] ∧ Dd K H x d ∧ d.showable = true ∧ d.depth ≤ 64 ∧ d.shown.length ≤ sizeLine ∧ Q (.str d.shown) H
theorem call_reprA {X : Cx} {K : PySem.W.Frag} {k : Nat} (h : X.K = K) (hg : X.A.guards = some []) (hr : Room k X.A) : CallR X (.builtin "repr") (rReprA K) := by
  subst h
  intro pins s σ H xs us Q I r h
  obtain ⟨x, d, rfl, dd, sh, de, sz, q⟩ := h
  obtain ⟨u, rfl, ru⟩ := r.one
  have un := hr.un
  exact repr_any I dd ru sh hg (by omega) sz fun h' t tk keep => ⟨.str _, H, I.kept keep, ⟨_, rfl⟩, q⟩
/-! ### it stays -/
mutual
theorem Dd.kt {K : PySem.W.Frag} {H H' : Hp} (l : ∀ {a xs}, SqL K H a xs → SqL K H' a xs) (t : ∀ {a xs}, SqT K H a xs → SqT K H' a xs) (k : ∀ {a kvs}, H a = some (.dK kvs) → H' a = some (.dK kvs)) : ∀ {v : V} {d : PyData}, Dd K H v d → Dd K H' v d
  | _, _, .non => .non
  | _, _, .bl b => .bl b
  | _, _, .int i => .int i
  | _, _, .str x => .str x
  | _, _, .lst q r => .lst (l q) (DdAll.kt l t k r)
  | _, _, .tup q r => .tup (t q) (DdAll.kt l t k r)
  | _, _, .dct q e r => .dct (k q) e (DdAll.kt l t k r)
theorem DdAll.kt {K : PySem.W.Frag} {H H' : Hp} (l : ∀ {a xs}, SqL K H a xs → SqL K H' a xs) (t : ∀ {a xs}, SqT K H a xs → SqT K H' a xs) (k : ∀ {a kvs}, H a = some (.dK kvs) → H' a = some (.dK kvs)) : ∀ {vs : List V} {ds : List PyData}, DdAll K H vs ds → DdAll K H' vs ds
  | _, _, .nil => .nil
  | _, _, .cons h t' => .cons (Dd.kt l t k h) (DdAll.kt l t k t')
end
theorem tup_same {K : PySem.W.Frag} {H H' : Hp} {a : Addr} {xs : List V} (s : Same H H') (h : SqT K H a xs) : SqT K H' a xs := by
  rcases h with (h | ⟨o, h⟩) | h
  · exact .inl (.inl (s _ _ h))
  · exact .inl (.inr ⟨o, s _ _ h⟩)
  · exact .inr h
theorem Dd.same {K : PySem.W.Frag} {H H' : Hp} {v : V} {d : PyData} (s : Same H H') (h : Dd K H v d) : Dd K H' v d := h.kt (fun q => s.seq q) (fun q => tup_same s q) (fun q => s _ _ q)
/-- the heap but for what stands at u -/
def off (u : Addr) (H : Hp) : Hp := fun b => if b = u then none else H b
theorem off_same {u : Addr} {H : Hp} : Same (off u H) H := fun b o h => by
  unfold off at h
  split at h
  · cases h
  · exact h
theorem off_but {u : Addr} {H H' : Hp} (k : But u H H') : Same (off u H) (off u H') := fun b o h => by
  unfold off at h ⊢
  split at h
  · cases h
  · rename_i n
    rw [if_neg n]
    exact k b o n h
theorem off_at {u p : Addr} {H : Hp} {o : HO} (h : H p = some o) (n : p ≠ u) : off u H p = some o := by
  unfold off
  rw [if_neg n]
  exact h
theorem Dd.but {K : PySem.W.Frag} {u : Addr} {H H' : Hp} {v : V} {d : PyData} (k : But u H H') (h : Dd K (off u H) v d) : Dd K (off u H') v d := h.same (off_but k)
theorem Dd.on {K : PySem.W.Frag} {u : Addr} {H : Hp} {v : V} {d : PyData} (h : Dd K (off u H) v d) : Dd K H v d := h.same off_same
/-- the kind of a thing -/
theorem Dd.ty {K : PySem.W.Frag} {H : Hp} {v : V} {d : PyData} (h : Dd K H v d) : ∃ T : String, TyX K H v (.type T) ∧ (T = "int" ↔ ∃ i, v = .int i) ∧ (T = "bool" ↔ ∃ b, v = .bl b) ∧ T ∈ ["NoneType", "bool", "int", "str", "list", "tuple", "dict"] := by
  cases h with
  | non => exact ⟨"NoneType", .base .non, by simp, by simp, by simp⟩
  | bl b => exact ⟨"bool", .base (.bl b), by simp, by simp, by simp⟩
  | int i => exact ⟨"int", .base (.int i), by simp, by simp, by simp⟩
  | str x => exact ⟨"str", .base (.str x), by simp, by simp, by simp⟩
  | lst q r =>
    refine ⟨"list", ?_, by simp, by simp, by simp⟩
    rcases q with (q | ⟨o, q⟩) | ⟨o, its, n, q, c, _⟩
    · exact .base (.lst q)
    · exact .base (.frz q)
    · exact .kList q c
  | tup q r =>
    refine ⟨"tuple", ?_, by simp, by simp, by simp⟩
    rcases q with (q | ⟨o, q⟩) | ⟨o, its, n, q, c, _⟩
    · exact .base (.tup q)
    · exact .fTuple q
    · exact .kTuple q c
  | dct q e r => exact ⟨"dict", .base (.dK q), by simp, by simp, by simp⟩
/-! ### data that is shown in few signs -/
def Nice (n : Nat) (d : PyData) : Prop := d.showable = true ∧ d.depth ≤ n ∧ d.shown.length ≤ 3000 + 20 * n
theorem Nice.up {n m : Nat} {d : PyData} (h : Nice n d) (l : n ≤ m) : Nice m d := ⟨h.1, Nat.le_trans h.2.1 l, Nat.le_trans h.2.2 (by omega)⟩
theorem Nice.line {n : Nat} {d : PyData} (h : Nice n d) (l : n ≤ 64) : d.showable = true ∧ d.depth ≤ 64 ∧ d.shown.length ≤ sizeLine := ⟨h.1, Nat.le_trans h.2.1 l, Nat.le_trans h.2.2 (by rw [sizeLine_eq]; omega)⟩
theorem nice_int {i : Int} (h : i.natAbs.log2 < 1920) : Nice 0 (.int i) := by
  obtain ⟨a, _, b, c⟩ := leaf_int h
  exact ⟨a, Nat.le_of_eq b, Nat.le_trans c (by decide)⟩
theorem tup1_len (t : Str) : (tupleText [t]).length = t.length + 3 := by
  unfold tupleText
  rw [strLen_append, strLen_append]
  show 1 + t.length + 2 = t.length + 3
  omega
theorem lst1_len (t : Str) : (listText [t]).length = t.length + 2 := by
  unfold listText
  rw [strLen_append]
  show (("[" : Str) ++ ("" : Str) ++ t).length + 1 = t.length + 2
  rw [strLen_append, strLen_append]
  show 1 + 0 + t.length + 1 = t.length + 2
  omega
theorem dct1_len (t : Str) : (dictText [t]).length = t.length + 2 := by
  unfold dictText
  rw [strLen_append, strLen_append]
  show 1 + t.length + 1 = t.length + 2
  omega
theorem tup2_len (t u : Str) : (tupleText [t, u]).length = t.length + u.length + 4 := by
  unfold tupleText
  have e := join_length_add [t, u] (by simp)
  rw [piled_cons, piled_cons, piled_nil] at e
  rw [strLen_append, strLen_append]
  show 1 + (Str.join ", " [t, u]).length + 1 = _
  omega
theorem nice_tup1 {n : Nat} {d : PyData} (h : Nice n d) : Nice (n + 1) (.tuple [d]) := by
  obtain ⟨a, b, c⟩ := h
  refine ⟨by simp only [PyData.showable, PyData.showableAll, a, Bool.and_self], ?_, ?_⟩
  · simp only [PyData.depth, PyData.depthAll]
    omega
  · simp only [PyData.shown, PyData.shownAll, tup1_len]
    omega
theorem nice_lst1 {n : Nat} {d : PyData} (h : Nice n d) : Nice (n + 1) (.list [d]) := by
  obtain ⟨a, b, c⟩ := h
  refine ⟨by simp only [PyData.showable, PyData.showableAll, a, Bool.and_self], ?_, ?_⟩
  · simp only [PyData.depth, PyData.depthAll]
    omega
  · simp only [PyData.shown, PyData.shownAll, lst1_len]
    omega
theorem nice_dct1 {n : Nat} {d : PyData} {x : Str} (hx : (reprText x).length ≤ 10) (h : Nice n d) : Nice (n + 1) (.dict [(.str x, d)]) := by
  obtain ⟨a, b, c⟩ := h
  refine ⟨by simp only [PyData.showable, PyData.showableKv, a, Bool.and_self], ?_, ?_⟩
  · simp only [PyData.depth, PyData.depthKv]
    omega
  · simp only [PyData.shown, PyData.shownKv, dct1_len]
    rw [strLen_append, strLen_append]
    show (reprText x).length + 2 + d.shown.length + 2 ≤ _
    omega
theorem nice_tup2 {n : Nat} {d e : PyData} (h : Nice n d) (k : Nice 0 e) (l : e.shown.length ≤ 10) : Nice (n + 1) (.tuple [d, e]) := by
  obtain ⟨a, b, c⟩ := h
  obtain ⟨a', b', _⟩ := k
  refine ⟨by simp only [PyData.showable, PyData.showableAll, a, a', Bool.and_self], ?_, ?_⟩
  · simp only [PyData.depth, PyData.depthAll]
    omega
  · simp only [PyData.shown, PyData.shownAll, tup2_len]
    omega
end Lj
set_option Elab.async false
set_option linter.all false
set_option maxRecDepth 100000
set_option maxHeartbeats 2000000
/-! # errors of the program's own: __init__ says super().__init__(text), then stores one attribute -/
namespace Lj
open PySem PySem.W PySem.Calls PyProof.Rows PySem.HandSPX
/-! ### the text of __init__ -/
def eA (f : Str) (p1 p2 : Pos) : Arguments := { posonlyargs := [], args := [{ arg := "self", annotation := none, pos := p1 }, { arg := f, annotation := none, pos := p2 }], vararg := none, kwonlyargs := [], kw_defaults := [], kwarg := none, defaults := [] }
def eB (f m : Str) (p1 p2 p3 p4 p5 p6 q1 q2 q3 q4 : Pos) : List Stmt :=
  [.Expr (.Call (.Attribute (.Call (.Name "super" p1) [] [] p2) "__init__" p3) [.Constant (.str m) 0 p4] [] p5) p6, .Assign [.Attribute (.Name "self" q1) f q2] (.Name f q3) q4]
def eS (f : Str) : Scope := { kind := .function, names := [(PySem.Str.ofString "self", .local), (f, .local), (PySem.Str.ofString "__class__", .free), (PySem.Str.ofString "super", .globalImplicit)], isGenerator := false, isCoroutine := false, more := [] }
/-- a name that is none of the others in __init__ -/
structure Nm (f : Str) : Prop where
  s : (f == ("self" : Str)) = false
  c : (f == ("__class__" : Str)) = false
  u : (f == ("super" : Str)) = false
  d : (f == ("__debug__" : Str)) = false
  bd : ∀ (qual : Str) (p1 p2 : Pos) (b : List Stmt) (doc pm : Value) (an : Option Addr) (cdv ct : Value) (cc : Addr) (u v : Value), bindArgs (ksFn "__init__" qual (eA f p1 p2) b (eS f) .none .none doc pm an cdv ct cc) ⟨[u, v], []⟩ = pure [(("self" : Str), u), (f, v)]
  bk : ∀ (qual : Str) (p1 p2 : Pos) (b : List Stmt) (doc pm : Value) (an : Option Addr) (cdv ct : Value) (cc : Addr) (u v : Value), bindArgs (ksFn "__init__" qual (eA f p1 p2) b (eS f) .none .none doc pm an cdv ct cc) ⟨[u], [(f, v)]⟩ = pure [(("self" : Str), u), (f, v)]
theorem ev_super (qual m : Str) (sc : Scope) (L a cc : Addr) (cd : Value) (p3 p4 p5 p6 p7 : Pos) (h : (p5.endLine == p7.line) = true) : ∃ pl : Sem Bool, eval (.Call (.Attribute (.Call (.Name "super" p3) [] [] p4) "__init__" p5) [.Constant (.str m) 0 p6] [] p7) (ksEnv qual sc L a cd cc) = (do
      let ov ← attributeBase (.Call (.Name "super" p3) [] [] p4) "__init__" (ksEnv qual sc L a cd cc) (eval (.Call (.Name "super" p3) [] [] p4) (ksEnv qual sc L a cd cc))
      standAt p5.atName
      let (g, first) ← holding [ov] (getMethod ov "__init__" pl)
      callWith p7 g first (backTo p7 (starEach [.Constant (.str m) 0 p6] (ksEnv qual sc L a cd cc))) []) := by
  refine ⟨(do return (← importBound (.Call (.Name "super" p3) [] [] p4) (ksEnv qual sc L a cd cc)).getD true), ?_⟩
  show (do
    let ov ← attributeBase (.Call (.Name "super" p3) [] [] p4) "__init__" (ksEnv qual sc L a cd cc) (eval (.Call (.Name "super" p3) [] [] p4) (ksEnv qual sc L a cd cc))
    standAt p5.atName
    methodCall (.Call (.Name "super" p3) [] [] p4) "__init__" p5 p7 (ksEnv qual sc L a cd cc) ov 1 (backTo p7 (starEach [.Constant (.str m) 0 p6] (ksEnv qual sc L a cd cc))) (backToKw p7 (keywordEach [] (ksEnv qual sc L a cd cc)))) = _
  congr 1; funext ov; congr 1; funext u
  unfold methodCall methodCallPos
  simp only [h, Bool.or_true, if_true, pure_bind]
  rfl
theorem nm_value : Nm "value" := ⟨by decide +kernel, by decide +kernel, by decide +kernel, by decide +kernel, fun _ _ _ _ _ _ _ _ _ _ _ _ => rfl, fun _ _ _ _ _ _ _ _ _ _ _ _ => rfl⟩
theorem nm_moment : Nm "moment" := ⟨by decide +kernel, by decide +kernel, by decide +kernel, by decide +kernel, fun _ _ _ _ _ _ _ _ _ _ _ _ => rfl, fun _ _ _ _ _ _ _ _ _ _ _ _ => rfl⟩
theorem nm_x : Nm "x" := ⟨by decide +kernel, by decide +kernel, by decide +kernel, by decide +kernel, fun _ _ _ _ _ _ _ _ _ _ _ _ => rfl, fun _ _ _ _ _ _ _ _ _ _ _ _ => rfl⟩
theorem nm_state : Nm "state" := ⟨by decide +kernel, by decide +kernel, by decide +kernel, by decide +kernel, fun _ _ _ _ _ _ _ _ _ _ _ _ => rfl, fun _ _ _ _ _ _ _ _ _ _ _ _ => rfl⟩
theorem nm_line : Nm "line" := ⟨by decide +kernel, by decide +kernel, by decide +kernel, by decide +kernel, fun _ _ _ _ _ _ _ _ _ _ _ _ => rfl, fun _ _ _ _ _ _ _ _ _ _ _ _ => rfl⟩
theorem nm_command : Nm "command" := ⟨by decide +kernel, by decide +kernel, by decide +kernel, by decide +kernel, fun _ _ _ _ _ _ _ _ _ _ _ _ => rfl, fun _ _ _ _ _ _ _ _ _ _ _ _ => rfl⟩
theorem nm_size : Nm "size" := ⟨by decide +kernel, by decide +kernel, by decide +kernel, by decide +kernel, fun _ _ _ _ _ _ _ _ _ _ _ _ => rfl, fun _ _ _ _ _ _ _ _ _ _ _ _ => rfl⟩
theorem nm_depth : Nm "depth" := ⟨by decide +kernel, by decide +kernel, by decide +kernel, by decide +kernel, fun _ _ _ _ _ _ _ _ _ _ _ _ => rfl, fun _ _ _ _ _ _ _ _ _ _ _ _ => rfl⟩
/-- what the written part says of the error x, at C, and of its __init__, at fI -/
structure ErrTxt (P : Program) (K : Frag) (mg : Str → Option Value) (x f : Str) (C fI : Addr) : Prop where
  nm : Nm f
  gC : mg x = some (.ref C)
  cls : ∃ nm q N bs bm sn sub ab col dd k0 k1 k2 k3 k5, K.lookup C = some (excClassObj nm q C N bs bm true sn sub ab col dd k0 k1 k2 k3 k5 "ValueError.__new__") ∧ refsVE bm = true
  sa : findIn K (.ref C) "__setattr__" = some (some (.builtin "object.__setattr__"))
  ga : findIn K (.ref C) "__getattribute__" = some (some (.builtin "BaseException.__getattribute__"))
  gg : findIn K (.ref C) "__getattr__" = some none
  noN : findIn K (.ref C) f = some none
  iC : findIn K (.ref C) "__init__" = some (some (.ref fI))
  tC : typeIn K (.ref fI) = some (.type "function")
  kC : keepIn K (.ref C) = true
  exC : subIn K (.ref C) (.type "BaseException") = some true
  veC : subIn K (.ref C) (.type "ValueError") = some true
  tyC : typeIn K (.ref C) = some (.type "type")
  hdC : hasDictIn K C = true
  mrC : mroIn K C (.ref C) = some true
  suC : ks_superIn K C C "__init__" = some (some (.builtin "ValueError.__init__"))
  op : nsIn K cStatics "thirdparty.any" = some none
  gS : mg "super" = none
  top : (P.main.scope.names.lookup ("super" : Str)).isSome = false
  fn : ∃ (oc : Value) (od : Option Addr) (qual m : Str) (doc pm : Value) (an : Option Addr) (cda cc : Addr) (ct : Value) (osl : Array (Option Value)) (p1 p2 p3 p4 p5 p6 p7 p8 q1 q2 q3 q4 : Pos)
    (ccl : Value) (cdd : Option Addr) (vs : Array Value) (ccs : Array (Option Value)) (file : Str) (tf : Tok) (cl : Value) (cld : Option Addr) (csl : Array (Option Value)),
    K.lookup fI = some ⟨oc, od, .func (ksFn "__init__" qual (eA f p1 p2) (eB f m p3 p4 p5 p6 p7 p8 q1 q2 q3 q4) (eS f) .none .none doc pm an (.ref cda) ct cc), osl⟩ ∧ codeIn K (.ref cda) qual = true ∧
      K.lookup cda = some ⟨ccl, cdd, .fields vs, ccs⟩ ∧ vs[2]? = some (.str file tf) ∧ ((P.main.file : Str) == file) = true ∧ (p5.endLine == p7.line) = true ∧ K.lookup cc = some ⟨cl, cld, .cell (some (.ref C)), csl⟩
theorem one_size (v : Value) : [v].length ≤ sizeLine := by
  rw [sizeLine_eq]
  exact (by decide : 1 ≤ 16777216)
/-- what __init__ leaves of a fresh exception at x -/
structure InitEnd (f : Str) (h h' : Heap) (x C dx : Addr) (v : Value) : Prop where
  keep : ∀ b o, b ≠ x → h.get? b = some o → h'.get? b = some o
  obj : ∃ t1 : Addr, h'.get? x = some { cls := .ref C, dict := some dx, data := .fields #[.ref t1, .none, .none, .none, .bool false, .none] }
  dbig : h.objs.size ≤ dx
  dne : dx ≠ x
  ns : h'.Ns1 dx (fun y => if y = f then some v else none)
/-- a made error -/
structure OwnMade (f : Str) (h h' : Heap) (e C d : Addr) (v : Value) : Prop where
  keep : ∀ b o, h.get? b = some o → h'.get? b = some o
  new : h.objs.size ≤ e
  obj : ∃ oe vs, h'.get? e = some oe ∧ oe.cls = .ref C ∧ oe.dict = some d ∧ oe.data = .fields vs ∧ vs[1]? = some .none
  dbig : h.objs.size ≤ d
  dne : d ≠ e
  ns : h'.Ns1 d (fun y => if y = f then some v else none)
section
variable {prog : Program} {w : World} {A : Around} {E : Value → Shared → Prop} {R : Result → Shared → Prop} {s : Shared} {K : Frag} {mg mb : Str → Option Value} {x f : Str} {C fI : Addr}
theorem lk_self {f : Str} : (eS f).names.lookup ("self" : Str) = some .local := rfl
theorem lk_f (n : Nm f) : (eS f).names.lookup f = some .local := by
  have h := n.s
  show List.lookup f [(PySem.Str.ofString "self", NameKind.local), (f, .local), (PySem.Str.ofString "__class__", .free), (PySem.Str.ofString "super", .globalImplicit)] = _
  rw [List.lookup_cons]
  have h2 : (f == PySem.Str.ofString "self") = false := h
  rw [h2, List.lookup_cons, beq_self_eq_true]
theorem flip {a b : Str} (h : (a == b) = false) : (b == a) = false := by
  cases e : b == a with
  | false => rfl
  | true =>
    have := beq_iff_eq.mp e
    rw [this, beq_self_eq_true] at h
    cases h
theorem lk_class (n : Nm f) : (eS f).names.lookup ("__class__" : Str) = some .free := by
  have h := flip n.c
  show List.lookup (PySem.Str.ofString "__class__") [(PySem.Str.ofString "self", NameKind.local), (f, .local), (PySem.Str.ofString "__class__", .free), (PySem.Str.ofString "super", .globalImplicit)] = _
  rw [List.lookup_cons, show (PySem.Str.ofString "__class__" == PySem.Str.ofString "self") = false by decide +kernel, List.lookup_cons, show (PySem.Str.ofString "__class__" == f) = false from h, List.lookup_cons, beq_self_eq_true]
theorem lk_super (n : Nm f) : (eS f).names.lookup ("super" : Str) = some .globalImplicit := by
  have h := flip n.u
  show List.lookup (PySem.Str.ofString "super") [(PySem.Str.ofString "self", NameKind.local), (f, .local), (PySem.Str.ofString "__class__", .free), (PySem.Str.ofString "super", .globalImplicit)] = _
  rw [List.lookup_cons, show (PySem.Str.ofString "super" == PySem.Str.ofString "self") = false by decide +kernel, List.lookup_cons, show (PySem.Str.ofString "super" == f) = false from h, List.lookup_cons, show (PySem.Str.ofString "super" == PySem.Str.ofString "__class__") = false by decide +kernel, List.lookup_cons, beq_self_eq_true]
theorem err_initA (T : ErrTxt prog K mg x f C fI) {e t0 : Addr} {v : Value} {as : Args} (hb : ∀ (qual : Str) (p1 p2 : Pos) (b : List Stmt) (doc pm : Value) (an : Option Addr) (cdv ct : Value) (cc : Addr), bindArgs (ksFn "__init__" qual (eA f p1 p2) b (eS f) .none .none doc pm an cdv ct cc) as = pure [(("self" : Str), .ref e), (f, v)]) (X : K.In s.heap) (hlim : s.heap.NoLimit) (hG : s.heap.Ns mainGlobals mg) (hB : s.heap.Ns builtinsNs mb) (hmb : ∀ x : Str, x ≠ "__name__" → mb x = bootBuiltins x)
    (hx : s.heap.get? e = some (excO C t0)) (hnx : K.lookup e = none) (hroom : A.depth < recursionLimit)
    (hq : ∀ h' tk dx, InitEnd f s.heap h' e C dx v → R (.ok (.ret .none)) { s with heap := h', toks := tk }) :
    codeAny (model prog w) A (.call (.ref fI) as) R s := by
  obtain ⟨oc, od, qual, m, doc, pm, an, cda, cc, ct, osl, p1, p2, p3, p4, p5, p6, p7, p8, q1, q2, q3, q4, ccl, cdd, vs, ccs, file, tf, cl, cld, csl, ho, hcd, hcode, hvs, hfile, hpos, hcell⟩ := T.fn
  obtain ⟨nm, q, N, bs, bm, sn, sub, ab, col, dd, k0, k1, k2, k3, k5, hC, hbm⟩ := T.cls
  have hcl : clsIn K C = some { name := nm, bases := bs, mro := .ref C :: bm, ns := N, qualname := q, hasDict := true, slotNames := sn, subclasses := sub, abstract := ab, collection := col, hasDel := false } := by unfold clsIn; rw [hC] <;> rfl
  have lf := lk_f T.nm
  have lc := lk_class T.nm
  have ls := lk_super T.nm
  have n := T.nm
  refine ks_codeAny_call_defAt (fd := ksFn "__init__" qual (eA f p1 p2) (eB f m p3 p4 p5 p6 p7 p8 q1 q2 q3 q4) (eS f) .none .none doc pm an (.ref cda) ct cc) (body := eB f m p3 p4 p5 p6 p7 p8 q1 q2 q3 q4) (binds := [("self", .ref e), (f, v)]) hroom (X _ _ ho) rfl hlim (codeRec_of X hcd) rfl
    (BindsTo.of_eq (hb _ _ _ _ _ _ _ _ _ _)) (fun y hy => ?_) (fun y hy => ?_) (fun h₁ hns hk₁ => ?_) rfl rfl rfl
  · rcases List.mem_cons.mp hy with rfl | hy
    · intro z; cases z
    rcases List.mem_cons.mp hy with rfl | hy
    · intro z; cases z
    rcases List.mem_cons.mp hy with rfl | hy
    · intro z; cases z
    rcases List.mem_cons.mp hy with rfl | hy
    · intro z; cases z
    cases hy
  · rcases List.mem_cons.mp hy with rfl | hy
    · exact lk_self
    rcases List.mem_cons.mp hy with rfl | hy
    · exact lf
    cases hy
  have hL : (fun y => ([("self", .ref e), (f, v)] : List (Str × Value)).reverse.lookup y) ("self" : Str) = some (.ref e) := by
    show List.lookup _ [(f, v), (("self" : Str), Value.ref e)] = _
    rw [List.lookup_cons, flip n.s, List.lookup_cons, beq_self_eq_true]
  have hV : (fun y => ([("self", .ref e), (f, v)] : List (Str × Value)).reverse.lookup y) f = some v := by
    show List.lookup _ [(f, v), (("self" : Str), Value.ref e)] = _
    rw [List.lookup_cons, beq_self_eq_true]
  obtain ⟨hp, g, d, tk, os⟩ := s
  have hx₁ := hk₁ _ _ hx
  have X₁ : K.In h₁ := X.keeps hk₁
  have Le : e ≠ hp.objs.size := Nat.ne_of_lt (Heap.lt_size hx)
  have I₁ : InstAt h₁ e (excO C t0) C none := ⟨hx₁, rfl, rfl, trivial⟩
  -- super().__init__(m)
  show PySem.wpAt _ _ _ (execs [_, _] (ksEnv qual (eS f) hp.objs.size fI (.ref cda) cc)) _ _ _
  obtain ⟨pl, ev⟩ := ev_super qual m (eS f) hp.objs.size fI cc (.ref cda) p3 p4 p5 p6 p7 hpos
  refine ks_wpAt_execs_cons (ks_wpAt_Expr_any (ks_wpAt_MethodCall (pl := pl) ?_ ev) rfl rfl)
  refine ks_wpAt_super_base (env := ksEnv qual (eS f) hp.objs.size fI (.ref cda) cc) ls lc (by decide) rfl (X₁ _ _ ho) rfl rfl rfl (X₁ _ _ hcode) rfl hvs hfile T.top ?_
  refine ks_loadName_global rfl ls (loadGlobal_builtin (env := ksEnv qual (eS f) hp.objs.size fI (.ref cda) cc) (hG.keeps hk₁) T.gS (hB.keeps hk₁) ((hmb _ (by decide +kernel)).trans (by first | boot_by_name | rfl | kernel_rfl)) ⟨rfl, ?_⟩)
  refine wpAny_loadName_free rfl lc rfl ⟨_, X₁ _ _ hcell, rfl⟩ ?_
  refine wpAny_loadName_local rfl lk_self hns hL ?_
  refine ks_wpAny_isType_cls (X₁ _ _ hC) rfl ⟨rfl, ?_⟩
  refine ks_wpAny_call_super (X₁ _ _ hC) rfl hx₁ rfl (fun c z => by cases z) (looks_mroIn X₁ T.mrC) (fun h₂ hso k₂ => ?_)
  have X₂ : K.In h₂ := X₁.keeps k₂
  have hx₂ := k₂ _ _ hx₁
  have I₂ : InstAt h₂ e (excO C t0) C none := ⟨hx₂, rfl, rfl, trivial⟩
  have hsu : alongIn K "__init__" (((Value.ref C :: bm).dropWhile (· != .ref C)).drop 1) = some (some (.builtin "ValueError.__init__")) := by
    have z := T.suC
    unfold ks_superIn at z
    rw [hcl] at z
    exact z
  refine kxs_getMethod kxs_ValueError hso (looks_opaque X₂ T.op) (l₀ := .ref C :: bm) ((looks_clsIn X₂ hcl).andThen .now) rfl X₂ hsu (I₂.type.andThen (looks_subIn X₂ T.veC)) (ks_ne X₂ I₂ hcl) (by decide +kernel) ?_
  have hmw : (h₂.push (kxs_mw "ValueError.__init__" e)).get? h₂.objs.size = some (kxs_mw "ValueError.__init__" e) := Heap.get?_push_at rfl rfl
  have k₃ : ∀ b o, h₂.get? b = some o → (h₂.push (kxs_mw "ValueError.__init__" e)).get? b = some o := fun b o z => Heap.get?_push_of_some _ z
  generalize h₂.push (kxs_mw "ValueError.__init__" e) = h₃ at hmw k₃
  have X₃ : K.In h₃ := X₂.keeps k₃
  have hx₃ := k₃ _ _ hx₂
  refine kxs_callWith (i := "ValueError.__init__") (x := e) (by rfl) ?_
  refine evalArgs_plain (spliced_cons (Constant_str (k := 0) (pos := p6) ?_))
  refine spliced_nil ⟨hmw, ?_⟩
  show wpAny _ _ (call (.ref h₂.objs.size) [Value.str m _] []) _ _ _
  refine wpAny_call (codeAny_of_tree ?_)
  show wpAny _ _ (callAny (.ref h₂.objs.size) ⟨[Value.str m _], []⟩) _ _ _
  simp only [callAny]
  refine wpAny_bind (wpAny_load hmw ?_)
  simp only [kxs_mw, show (Value.type "method-wrapper" == Value.type "method" || Value.type "method-wrapper" == Value.type "builtin_function_or_method" || Value.type "method-wrapper" == Value.type "method-wrapper") = true by decide, if_true]
  refine KFB.if_so (by decide) ?_
  refine wpAny_bind (check_bound_init F.excBase_ValueError.toExcCallFacts (X₃ _ _ hC) hx₃ rfl ?_)
  refine wpAny_bind (wpAny_pure (wpAny_pure ?_))
  refine ⟨plainId_quiet F.excBase_ValueError.init.plain _, codeAny_builtin F.excBase_ValueError.initEntry ?_⟩
  refine exc_init_tree (cls := .ref C) (t0 := t0) (dv := none) (c2 := .none) (c3 := .none) (b4 := .bool false) hx₃ (one_size _) fun h₄ k₄ hx₄ _ => ?_
  -- self.f = f
  have k13 : ∀ b o, h₁.get? b = some o → h₃.get? b = some o := fun b o z => k₃ b o (k₂ b o z)
  have X₄ : K.In h₄ := fun b o z => k₄ b o (fun y => by rw [y, hnx] at z; cases z) (X₃ b o z)
  have hns₄ : h₄.Ns hp.objs.size (fun y => ([("self", .ref e), (f, v)] : List (Str × Value)).reverse.lookup y) := hns.at fun o z => k₄ _ o (Ne.symm Le) (k13 _ o z)
  show PySem.wpAt _ _ _ (execs [_] (ksEnv qual (eS f) hp.objs.size fI (.ref cda) cc)) _ _ _
  refine ks_wpAt_execs_cons (ks_wpAt_Assign_Attr (PySem.wpAt_of_wpAny ?_) rfl)
  refine wpAny_Name (wpAny_loadName_local rfl lf hns₄ hV ?_) n.d
  refine wpAny_Name (wpAny_loadName_local rfl lk_self hns₄ hL ?_) (by decide +kernel)
  refine set_plain X₄ (ox := excO C _) (od := none) ⟨hx₄, rfl, rfl, trivial⟩ T.sa ?_
  refine exc_osa X₄ hx₄ hcl (show refsVE (.ref C :: bm) = true from hbm) rfl T.noN (fun h₅ tk₅ dx k₅ dn dne hx₅ hn₅ => ?_)
  refine PySem.wpAt_of_wpAny (wpAny_execs_nil (hq h₅ tk₅ dx ⟨fun b o hb z => k₅ b o hb (k₄ b o hb (k13 b o (hk₁ b o z))), ⟨_, hx₅⟩, ?_, dne, hn₅⟩))
  have z : hp.objs.size < h₄.objs.size := hns₄.lt
  exact Nat.le_of_lt (Nat.lt_of_lt_of_le z dn)
theorem err_made (T : ErrTxt prog K mg x f C fI) {v : Value} (X : K.In s.heap) (hlim : s.heap.NoLimit) (hG : s.heap.Ns mainGlobals mg) (hB : s.heap.Ns builtinsNs mb) (hmb : ∀ x : Str, x ≠ "__name__" → mb x = bootBuiltins x) (hroom : A.depth + 1 < recursionLimit)
    (hq : ∀ h' tk e d, OwnMade f s.heap h' e C d v → R (.ok (.ret (.ref e))) { s with heap := h', toks := tk }) :
    codeAny (model prog w) A (.call (.ref C) ⟨[v], []⟩) R s := by
  obtain ⟨nm, q, N, bs, bm, sn, sub, ab, col, dd, k0, k1, k2, k3, k5, hC, hbm⟩ := T.cls
  obtain ⟨hp, g, dr, tk, os⟩ := s
  have k : ∀ b o, hp.get? b = some o → ((hp.push (kdv_tup [v])).push (excO C hp.objs.size)).get? b = some o := fun b o e => Heap.get?_push_of_some _ (Heap.get?_push_of_some _ e)
  have hget : ((hp.push (kdv_tup [v])).push (excO C hp.objs.size)).get? (hp.objs.size + 1) = some (excO C hp.objs.size) := by heap_get
  have hnx : K.lookup (hp.objs.size + 1) = none := by
    cases e : K.lookup (hp.objs.size + 1) with
    | none => rfl
    | some o =>
      have z : hp.get? (hp.objs.size + 1) = some o := X _ _ e
      exact absurd (Nat.lt_of_succ_lt (Heap.lt_size z)) (Nat.lt_irrefl _)
  refine call_own F.excBase_ValueError (fun X => refsVE_contains X bm hbm) (X _ _ hC) (looks_findIn X T.iC) (fun self => bind_fn X self T.tC) (one_size v) ?_
  refine err_initA (s := ⟨(hp.push (kdv_tup [v])).push (excO C hp.objs.size), g, dr, tk, os⟩) T (fun _ _ _ _ _ _ _ _ _ _ => T.nm.bd _ _ _ _ _ _ _ _ _ _ _ _) (X.keeps k) (hlim.keeps k) (hG.keeps k) (hB.keeps k) hmb hget hnx ?_ fun h' tk' dx ⟨k', hx, dn, dne, hns⟩ => ?_
  · show A.depth + 1 < recursionLimit
    exact hroom
  · have old : ∀ b o, hp.get? b = some o → h'.get? b = some o := fun b o e => k' b o (Nat.ne_of_lt (Nat.lt_succ_of_lt (Heap.lt_size e))) (k b o e)
    have z : hp.objs.size + 1 + 1 ≤ dx := by
      first
        | (simpa only [Heap.size_push] using dn)
        | exact dn
        | (have q := dn; rw [Heap.size_push, Heap.size_push] at q; exact q)
    obtain ⟨t1, hx⟩ := hx
    exact ⟨rfl, hq h' tk' (hp.objs.size + 1) dx ⟨old, Nat.le_succ _, ⟨_, _, hx, rfl, rfl, rfl, rfl⟩, Nat.le_trans (Nat.le_trans (Nat.le_succ _) (Nat.le_succ _)) z, dne, hns⟩⟩
end
end Lj
set_option Elab.async false
set_option linter.all false
set_option maxRecDepth 100000
set_option maxHeartbeats 2000000
/-! # errors: made, raised, caught and kept as a value, asked -/
namespace Lj
open PySem PySem.Spec PyProof.Rows L2
/-! ### promises of defs that may raise, where nothing is being shown -/
structure FnE (P : Program) (w : World) (K : PySem.W.Frag) (mg : Str → Option Value) (base : Heap) (k : Nat) (f : Addr) (fd : FuncData) (ps : List Str) (sp : Sp) : Prop where
  len : ∀ vs H Q E, sp vs H Q E → vs.length = ps.length
  run : ∀ (A : Around) (out : List Env) (s : Shared) (H : Hp) (as : Args) (us : List Value) (vs : List V) (Q : VK) (E : XK), A.guards = some [] → Room k A → Env0 P w K mg base A out s H →
    BindsTo s fd as (ps.zip us) → Vals vs us → sp vs H Q E → codeAny (model P w) A (.call (.ref f) as) (CR (L2.CX P w) out P w H s Q E) s
section
variable {P : Program} {w : World} {K : PySem.W.Frag} {mg : Str → Option Value} {base : Heap} {j k : Nat} {f : Addr} {fd : FuncData} {ps : List Str} {sp sp' : Sp}
theorem FnE.up (F : FnE P w K mg base j f fd ps sp) (h : j ≤ k) : FnE P w K mg base k f fd ps sp := ⟨F.len, fun A out s H as us vs Q E g r => F.run A out s H as us vs Q E g (r.mono h)⟩
theorem FnE.weak (F : FnE P w K mg base k f fd ps sp) (h : ∀ vs H Q E, sp' vs H Q E → sp vs H Q E) : FnE P w K mg base k f fd ps sp' :=
  ⟨fun vs H Q E q => F.len vs H Q E (h _ _ _ _ q), fun A out s H as us vs Q E g r e b v q => F.run A out s H as us vs Q E g r e b v (h _ _ _ _ q)⟩
/-- by the def's body -/
theorem FnE.body {x qual : Str} {st : Stmt} {N : List Str} (F : Fun K x qual st f fd) (S : FnScope N ps (defScope st)) (len : ∀ vs H Q E, sp vs H Q E → vs.length = ps.length)
    (hb : ∀ (cdv : Value) (A : Around) (out : List Env) (s : Shared) (H : Hp) (vs : List V) (Q : VK) (E : XK), A.guards = some [] → Room k (A.deeper (envOfC qual (defScope st) s.heap.objs.size f cdv)) → sp vs H Q E →
      ∃ t, PSs (cxOf (L2.CX P w) P w K mg base N qual (defScope st) f cdv A out s H E) (defBody st) t ∧ t { nx := fun _ H' => Q .non H', rt := Q } (start N vs) H) : FnE P w K mg base (k + 1) f fd ps sp := by
  obtain ⟨c0, c1, c2, c3, c4, c5, cd, c6, c7, rfl, look, code⟩ := F.ex
  refine ⟨len, fun A out s H as us vs Q E hg room env bind vals want => ?_⟩
  have ln := len _ _ _ _ want
  have old : ∀ b o, base.get? b = some o → s.heap.get? b = some o := fun b o e => (env.bs b o e).1
  have here : K.In s.heap := env.mod.kin.keeps old
  refine codeAny_call_function room.depth (here _ _ look) rfl S.co S.gen rfl (PySem.W.codeRec_of here code) (bind _ _ _ _ ?_)
  refine wpAny_newFunctionEnv_cells S.kind (fun ⟨n, v⟩ m => (S.par n (List.of_mem_zip m).1).elim .inl fun c => .inr ⟨c, PySem.W.cellsFrom_some _ _ _ (.inl c)⟩) fun en he s1 x => ?_
  subst he
  refine ⟨(env.mod.nolimit.keeps old).keeps x.toInCall.keep, codeAny_func ?_⟩
  obtain ⟨t, rule, holds⟩ := hb cd A out s H vs Q E hg (room.deeper _) want
  have start0 := inv_start (CX := L2.CX P w) (E := E) S room.hd env ln vals x
  refine wpAny_mono (rule.run [] s1 (start N vs) H _ start0 holds) (fun r s' z => ?_) fun _ _ z => z
  match r, z with
  | .ret u, ⟨v, σ', H', J, rv, q⟩ => exact ⟨v, H', J.os, J.bare, J.base, J.hok, rv, q⟩
  | .next, ⟨σ', H', J, q⟩ => exact ⟨.non, H', J.os, J.bare, J.base, J.hok, rfl, q⟩
  | .brk, ⟨_, _, _, q⟩ => exact False.elim q
  | .cont, ⟨_, _, _, q⟩ => exact False.elim q
end
/-- where a def that may raise stands, under the name x, with its promise -/
structure CalE (P : Program) (w : World) (K : PySem.W.Frag) (mg : Str → Option Value) (base : Heap) (k : Nat) (x : Str) (ps : List Str) (f : Addr) (fd : FuncData) (sp : Sp) : Prop where
  ok : FnE P w K mg base k f fd ps sp
  kp : PySem.W.keepIn K (.ref f) = true
  b : Binds K fd ps []
  g : mg x = some (.ref f)
  lk : ∃ oc od osl, K.lookup f = some ⟨oc, od, .func fd, osl⟩
def HasE (P : Program) (w : World) (K : PySem.W.Frag) (mg : Str → Option Value) (base : Heap) (k : Nat) (x : Str) (ps : List Str) (sp : Sp) : Prop := ∃ f fd, CalE P w K mg base k x ps f fd sp
section
variable {P : Program} {w : World} {K : PySem.W.Frag} {mg : Str → Option Value} {base : Heap} {j k : Nat} {x : Str} {ps : List Str} {sp sp' : Sp}
theorem HasE.up (h : HasE P w K mg base j x ps sp) (l : j ≤ k) : HasE P w K mg base k x ps sp := by
  obtain ⟨f, fd, c⟩ := h
  exact ⟨f, fd, c.ok.up l, c.kp, c.b, c.g, c.lk⟩
theorem HasE.weak (h : HasE P w K mg base k x ps sp) (i : ∀ vs H Q E, sp' vs H Q E → sp vs H Q E) : HasE P w K mg base k x ps sp' := by
  obtain ⟨f, fd, c⟩ := h
  exact ⟨f, fd, c.ok.weak i, c.kp, c.b, c.g, c.lk⟩
theorem HasE.by {st : Stmt} {N : List Str} (F : At K mg x st ps) (S : FnScope N ps (defScope st)) (len : ∀ vs H Q E, sp vs H Q E → vs.length = ps.length)
    (hb : ∀ (f : Addr) (cdv : Value) (A : Around) (out : List Env) (s : Shared) (H : Hp) (vs : List V) (Q : VK) (E : XK), A.guards = some [] → Room k (A.deeper (envOfC x (defScope st) s.heap.objs.size f cdv)) → sp vs H Q E →
      ∃ t, PSs (cxOf (L2.CX P w) P w K mg base N x (defScope st) f cdv A out s H E) (defBody st) t ∧ t { nx := fun _ H' => Q .non H', rt := Q } (start N vs) H) : HasE P w K mg base (k + 1) x ps sp := by
  obtain ⟨f, fd, F, b, g⟩ := F
  exact ⟨f, fd, .body F S len (hb f), F.kp, b, g, fun_lk F⟩
/-- what raises nothing is a promise of both kinds -/
theorem HasE.calm (h : HasE P w K mg base k x ps sp) (i : ∀ vs H Q E, sp' vs H Q E → sp vs H Q E0) : Has P w K mg base k x ps sp' := by
  obtain ⟨f, fd, c⟩ := h
  refine ⟨f, fd, ⟨fun vs H Q E q => c.ok.len vs H Q E0 (i _ _ _ _ q), fun A out s H as us vs Q E g r e b v q => ?_⟩, c.kp, c.b, c.g, c.lk⟩
  refine codeAny_mono (c.ok.run A out s H as us vs Q E0 g r e b v (i _ _ _ _ q)) fun r s' z => ?_
  match r, z with
  | .error _, z =>
    obtain ⟨_, _, _, _, _, _, _, _, _, _, _, _, z⟩ := z
    exact z.elim
  | .ok (.ret _), z => exact z
  | .ok .next, z => exact z.elim
  | .ok .brk, z => exact z.elim
  | .ok .cont, z => exact z.elim
end
section
variable {X : Cx} {k : Nat} {x : Str} {ps ks : List Str} {f : Addr} {fd : FuncData} {sp : Sp} {p pos : Pos} {e : Expr} {es : List Expr} {t : TA} {E : L2.St → XK}
theorem calE_run {pins : List (Addr × Obj)} {σ : L2.St} {H : Hp} {s : Shared} {Q : VK} {us zs : List Value} {vs : List V} {kw : List (Str × Value)} (c : FnE X.prog X.w X.K X.mg X.base k f fd ps sp) (hg : X.A.guards = some []) (hr : Room k X.A) (hx : PassesAt (L2.CX X.prog X.w) X σ (E σ))
    (I : Inv X pins σ H s) (bind : BindsTo s fd ⟨us, kw⟩ (ps.zip zs)) (vals : Vals vs zs) (h : sp vs H Q (E σ)) : wpAny (model X.prog X.w) X.A (call (.ref f) us kw) (EP X pins σ Q) X.xe s := by
  refine wpAny_call (codeAny_mono (c.run X.A X.stack s H ⟨us, kw⟩ zs vs Q (E σ) hg hr I.env0 bind vals h) fun r s' z => ?_)
  match r, z with
  | .error e, z => exact hx pins H s e s' I z
  | .ok (.ret _), z => exact I.after z
  | .ok .next, z => exact z.elim
  | .ok .brk, z => exact z.elim
  | .ok .cont, z => exact z.elim
/-- f(e, ..), which may raise -/
theorem pe_calE (c : CalE X.prog X.w X.K X.mg X.base k x ps f fd sp) (hg : X.A.guards = some []) (hr : Room k X.A) (gl : Gl X x) (hx : ∀ σ, PassesAt (L2.CX X.prog X.w) X σ (E σ)) (ha : PA X (e :: es) t) (hdb : (x == ("__debug__" : Str)) = false := by decide)
    (he : starEach (e :: es) X.env = (false, eval e X.env) :: starEach es X.env := by rfl) (hpl : (backTo pos (starEach es X.env)).any (·.1) = false := by rfl) :
    PE X (.Call (.Name x p) (e :: es) [] pos) (tCallS sp E t) := by
  refine ⟨fun pins s σ H Q I h => wpAny_Call_Name_kw (ld_glob I gl c.g ?_ hdb)⟩
  refine PySem.W.callWith_K (h₀ := X.base) I.ok.mod.kin c.kp (thn (ha.run pos pins s σ H _ I h) fun us s1 ⟨vs, H1, I1, r, q⟩ => ⟨I1.kIn, ?_⟩) he hpl
  have ln : (us ++ []).length = ps.length := by
    rw [List.append_nil, ← r.length]
    exact c.ok.len _ _ _ _ q
  have bd := c.b s1 us I1.kIn ln
  rw [List.append_nil] at bd
  exact calE_run c.ok hg hr (hx σ) I1 bd r q
end
/-! ### an error made, raised -/
section
variable {X : Cx} {C fI : Addr} {x f : Str}
/-- x(e), then raised -/
def tMkErr (f : Str) (C : Addr) (ta : TA) : L2.St → Hp → XK → Prop := fun σ H Q => ta σ H fun vs H1 => ∃ v, vs = [v] ∧ ∀ d, H1 d = none → Q (.ref C) (some d) (upd H1 d (.xd [(f, v)]))
theorem pmk_err {a : Expr} {ta : TA} {p pos : Pos} {k : Nat} (T : ErrTxt X.prog X.K X.mg x f C fI) (hr : Room k X.A) (ha : PA X [a] ta) (hg : Gl X x) (hdb : (x == ("__debug__" : Str)) = false := by decide)
    (he : starEach (a :: []) X.env = (false, eval a X.env) :: starEach [] X.env := by rfl) (hpl : (backTo pos (starEach [] X.env)).any (·.1) = false := by rfl) :
    PMk X (.Call (.Name x p) [a] [] pos) (tMkErr f C ta) := by
  intro pins s σ H Q I h
  refine wpAny_Call_Name_kw (ld_glob I hg T.gC ?_ hdb)
  refine PySem.W.callWith_K (h₀ := X.base) I.ok.mod.kin T.kC (thn (ha.run pos pins s σ H _ I h) fun us s1 hh => ?_) he hpl
  obtain ⟨vs, H1, I1, r1, v, ev, q1⟩ := hh
  subst ev
  refine ⟨I1.kIn, ?_⟩
  cases r1 with
  | cons rv rn =>
    rename_i v' us'
    cases rn
    show wpAny _ _ (call (.ref C) [v']) _ _ _
    have hlim := I1.nolimit
    obtain ⟨mb, hb1, hb2⟩ := I1.mod.blt
    have hG := I1.mod.glob.keeps I1.bk
    have hB := hb1.keeps I1.bk
    obtain ⟨hp, g, dr, tk, os⟩ := s1
    refine wpAny_call (err_made T I1.kIn hlim hG hB hb2 (by have := hr.dp; omega) fun h' tk' e d M => ?_)
    show MkP X pins σ Q (.ref e) ⟨h', g, dr, tk', os⟩
    obtain ⟨oe, fv, hoe, hc, hd, hdat, h1⟩ := M.obj
    have hns := M.ns
    obtain ⟨G', g1, g2⟩ := restrict h' fun b => decide (b ≠ e)
    have gk : ∀ b, b ≠ e → G'.get? b = h'.get? b := fun b hb => g1 b (decide_eq_true hb)
    have ge : G'.get? e = none := g2 e (by simp)
    have old : ∀ b o, hp.get? b = some o → G'.get? b = some o := fun b o q => (gk b (Nat.ne_of_lt (Nat.lt_of_lt_of_le (Heap.lt_size q) M.new))).trans (M.keep b o q)
    have ob : ObjOk X.prog X.w (upd H1 d (.xd [(f, v)])) G' d (.xd [(f, v)]) :=
      ⟨_, hns.at (fun o q => (gk d M.dne).trans q), fun f => relO_put (fs := []) (mA := fun _ => none) rv (fun _ => True.intro) f⟩
    have J : Inv X pins σ (upd H1 d (.xd [(f, v)])) ⟨G', g, dr, tk', os⟩ := I1.laid (t' := tk') old M.dbig ob
    refine ⟨e, oe, fv, ⟨G', g, dr, tk', os⟩, _, .ref C, some d, rfl, J, fun b o q => ?_, ge, hoe, ⟨hc, hd⟩, hdat, h1, ?_, rfl, I1.bare, raises_own T.exC T.tyC, q1 d (I1.hok.fresh M.dbig)⟩
    · by_cases hb : b = e
      · have q' : G'.get? b = some o := q
        rw [hb, ge] at q'; cases q'
      · exact (gk b hb).symm.trans q
    · rw [upd_ne (Ne.symm M.dne)]
      exact I1.hok.fresh M.new
/-- raise x(e) -/
def tRaiseErr (f : Str) (C : Addr) (W : WX) (ta : TA) : TS := fun _ σ H => tMkErr f C ta σ H fun cls d H' => W cls d σ H'
theorem ps_raiseErr {a : Expr} {ta : TA} {W : WX} {p pos pos2 : Pos} {k : Nat} (hc : X.calm = true) (T : ErrTxt X.prog X.K X.mg x f C fI) (hr : Room k X.A) (tk : Takes X W) (ha : PA X [a] ta) (hg : Gl X x) (hdb : (x == ("__debug__" : Str)) = false := by decide)
    (he : starEach (a :: []) X.env = (false, eval a X.env) :: starEach [] X.env := by rfl) (hpl : (backTo pos (starEach [] X.env)).any (·.1) = false := by rfl) :
    PS X (.Raise (some (.Call (.Name x p) [a] [] pos)) none pos2) (tRaiseErr f C W ta) := ps_raise hc tk (pmk_err T hr ha hg hdb he hpl)
end
/-! ### an error as a value -/
/-- at a: an error of the class cls, its dict d -/
def exv (a : Addr) (cls : Value) (d : Option Addr) : HO := .ext fun h => ∃ (oe : Obj) (vs : Array Value), h.get? a = some oe ∧ Zc cls d oe ∧ oe.data = .fields vs
theorem exv_ok {P : Program} {w : World} {H : Hp} {h : Heap} {a : Addr} {cls : Value} {d : Option Addr} {oe : Obj} {vs : Array Value} (e : h.get? a = some oe) (z : Zc cls d oe) (hd : oe.data = .fields vs) : ObjOk P w H h a (exv a cls d) :=
  ⟨⟨oe, vs, e, z, hd⟩, ⟨oe, e⟩, fun _ _ ⟨o, v, q, r⟩ k => ⟨o, v, k o q, r⟩⟩
theorem exv_at {P : Program} {w : World} {H : Hp} {h : Heap} {a : Addr} {cls : Value} {d : Option Addr} (hok : HOk P w H h) (he : H a = some (exv a cls d)) : ∃ (oe : Obj) (vs : Array Value), h.get? a = some oe ∧ Zc cls d oe ∧ oe.data = .fields vs := by
  have x : ObjOk P w H h a (.ext fun h => ∃ (oe : Obj) (vs : Array Value), h.get? a = some oe ∧ Zc cls d oe ∧ oe.data = .fields vs) := hok a _ he
  exact x.1
section
variable {X : Cx} {pins : List (Addr × Obj)} {σ : L2.St} {H : Hp} {s : Shared}
/-- an object that was not there at the entry, tracked from now on -/
theorem track {a : Addr} {o : HO} (I : Inv X pins σ H s) (n0 : X.s_0.heap.get? a = none) (hn : H a = none) (nL : a ≠ X.env.locals) (nC : ∀ x c, X.env.cells.lookup x = some c → c ≠ a) (np : ∀ p ∈ X.pn ++ pins, p.1 ≠ a)
    (new : ObjOk X.prog X.w (upd H a o) s.heap a o) : Inv X pins σ (upd H a o) s := by
  refine ⟨I.ok, I.os, I.bare, ⟨I.base.keep, I.base.slot, fun b u q n hx => ?_, I.base.there, fun b xs q => ?_, fun b u v q => ?_, fun b ps q => ?_⟩, I.loc, I.cell, ?_, fun x c e => ?_, fun p hp => ?_, fun b u e => ?_, I.len⟩
  · rw [upd_ne (fun z => by rw [z, n0] at q; cases q)]
    exact I.base.free b u q n hx
  · have q' := I.base.tups b xs q
    rw [upd_ne (ne_of_none q' hn)]
    exact q'
  · have q' := I.base.frzs b u v q
    rw [upd_ne (ne_of_none q' hn)]
    exact q'
  · obtain ⟨m, q'⟩ := I.base.tbls b ps q
    exact ⟨m, by rw [upd_ne (ne_of_none q' hn)]; exact q'⟩
  · rw [upd_ne (Ne.symm nL)]
    exact I.free
  · rw [upd_ne (nC x c e)]
    exact I.freeC x c e
  · obtain ⟨e, n, ne, nf, d⟩ := I.pin p hp
    exact ⟨e, by rw [upd_ne (np p hp)]; exact n, ne, nf, d⟩
  · by_cases hb : b = a
    · subst hb
      rw [upd_same] at e
      cases e
      exact new
    · rw [upd_ne hb] at e
      exact (I.hok b u e).stay (fun _ _ _ q => q) (fun c q => by rw [upd_ne (ne_of_none q hn)]; exact q) fun c xs q => by rw [upd_ne (ne_of_none q hn)]; exact q
end
/-! ### try: body, except x as n: suite; the error is kept as a value -/
/-- what the clause wishes of an error of the body: slot i is n's -/
def wKeep (K : PySem.W.Frag) (c : Value) (i : Nat) (ts : TS) (Wout : WX) (D : Ends) : WX := fun cls d σ H =>
  ∃ b, PySem.W.exmOne K cls c = some b ∧ (b = true → ∀ a, H a = none → ts { nx := fun σ' H' => D.nx (σ'.set i none) H', rt := D.rt, bk := fun σ' H' => D.bk (σ'.set i none) H', ct := fun σ' H' => D.ct (σ'.set i none) H' } (σ.set i (some (.ref a))) (upd H a (exv a cls d))) ∧
    (b = false → Wout cls d σ H)
section
variable {X : Cx} {x n : Str} {c : Value} {i : Nat} {body suite : List Stmt} {b₀ : Stmt} {np pos pos' : Pos} {tb : WX → TS} {ts : TS} {Wout : WX}
theorem suiteK {pins : List (Addr × Obj)} {σ : L2.St} {H : Hp} {s : Shared} (I : Inv X pins σ H s) (a : Addr) : Inv (X.suite a (X.pn ++ pins)) [] σ H s :=
  ⟨I.ok.suite _ _, I.os, I.bare, I.base, I.loc, I.cell, I.free, I.freeC, fun p hp => I.pin p (by rw [List.append_nil] at hp; exact hp), I.hok, I.len⟩
theorem unsuiteK {pins pn' : List (Addr × Obj)} {σ : L2.St} {H : Hp} {s : Shared} {a : Addr} (I : Inv (X.suite a (X.pn ++ pins)) pn' σ H s) (ok : X.Ok) : Inv X pins σ H s :=
  ⟨ok, I.os, I.bare, I.base, I.loc, I.cell, I.free, I.freeC, fun p hp => I.pin p (List.mem_append_left _ hp), I.hok, I.len⟩
theorem ps_try_keep (hs : X.stack = X.env :: X.outer) (hf : X.env.frame = some X.env.locals) (hex : X.ex = []) (hN : X.N.Nodup) (hi : X.N[i]? = some n) (hln : X.env.kindOf n = some .local) (hc : Names X x c) (tk : Takes X Wout)
    (hb : ∀ (W : WX) (pn : List (Addr × Obj)) (xe : Value → Shared → Prop), Takes (X.tr pn xe) W → PassesOwn (model X.prog X.w) X.A X.env xe → PSs (X.tr pn xe) body (tb W))
    (hsu : ∀ (a : Addr) (pn : List (Addr × Obj)), PSs (X.suite a pn) (b₀ :: suite) ts) :
    PS X (.Try body [.ExceptHandler (some (.Name x np)) (some n) (b₀ :: suite) pos'] [] [] pos) (fun D σ H => tb (wKeep X.K c i ts Wout D) D σ H) := by
  refine ⟨fun pins s σ H D I h => ?_⟩
  have ok := I.ok
  have frm : X.A.frames = some (X.env :: X.outer) := by rw [ok.frames, hs]
  refine wpAny_Try_except ?_
  refine wpAny_mono ((hb (wKeep X.K c i ts Wout D) (X.pn ++ pins) (fun er s₁ => wpAny (model X.prog X.w) X.A (noteFrame er X.env) (fun _ s₂ => wpAny (model X.prog X.w) X.A (setFlight er none) (fun _ s₃ =>
    wpAny (model X.prog X.w) X.A (handleBy er X.env [.ExceptHandler (some (.Name x np)) (some n) (b₀ :: suite) pos']) (SP X pins D) X.xe s₃) X.xe s₂) X.xe s₁) (fun u s' air => ?_) PassesOwn.looking).run [] s σ H D (I.toTry _) h) (fun fl s1 sp => ?_) (fun er s1 he => he)
  · obtain ⟨a, B, sI, pins', σ', H', cls, d, rfl, J', gr, up, sky, na, os, ag, b, hb1, yes, no⟩ := air
    have J : Inv X pins σ' H' sI := J'.ofTry ok
    have sky' : Sky B (X.env :: X.outer) a (Zc cls d) X.env.locals s'.heap := by rw [← hs]; exact sky
    show wpAny (model X.prog X.w) X.A (noteFrame (.ref a) X.env) _ _ _
    refine Sky.land Zc.steady frm hf sky' fun h3 f3 u3 => ?_
    have J3 : Inv X pins σ' H' { s' with heap := h3 } := J.landed gr f3.1 (up.trans u3) os ag
    obtain ⟨o3, v3, he3, hz3, hd3⟩ := f3.there
    have nfr : a ∉ frs (X.env :: X.outer) := fun hm => by
      obtain ⟨_, o', e', hnf⟩ := f3.2.2.1.mem hm
      rw [he3] at e'
      cases e'
      exact hnf _ hd3
    have nL : a ≠ X.env.locals := fun z => nfr (List.mem_filterMap.mpr ⟨X.env, List.mem_cons_self, by rw [hf, z]⟩)
    have nF : a ∉ X.fs := fun hm => by
      obtain ⟨e, he, q⟩ := List.mem_filterMap.mp hm
      exact nfr (List.mem_filterMap.mpr ⟨e, List.mem_cons_of_mem _ he, q⟩)
    have nG : B.get? a = none := f3.2.1
    have nI : sI.heap.get? a = none := by
      cases e : sI.heap.get? a with
      | none => rfl
      | some o =>
        have z := gr a o e (by rw [hs]; exact nfr)
        rw [nG] at z
        cases z
    have n0 : X.s_0.heap.get? a = none := by
      cases e : X.s_0.heap.get? a with
      | none => rfl
      | some o =>
        obtain ⟨o', z⟩ := J.base.there a o e (by rw [hex]; exact fun z => nomatch z)
        rw [nI] at z
        cases z
    have nP : ∀ p ∈ X.pn ++ pins, p.1 ≠ a := fun p hp z => by
      have q := (J.pin p hp).1
      rw [z, nI] at q
      cases q
    have S3 := J3.suite he3 hd3 na nL nF
    refine wpAny_handleBy_cons (codeAny_handlers_test ?_) (by intro q; cases q)
    have lt : PySem.W.Looks (model X.prog X.w) h3 (typeOf (.ref a)) cls := fun A Q E s k q => wpAny_typeOf_ref (k _ _ he3) (by rw [hz3.1]; exact q)
    have lm := PySem.W.exm_one (M := model X.prog X.w) (J3.kIn) lt hb1
    have test : ∀ {Q : Value → Shared → Prop} {E : Value → Shared → Prop}, Q c { s' with heap := h3 } → wpAny (model X.prog X.w) (X.A.mark (some (.ref a))) (eval (.Name x np) X.env) Q E { s' with heap := h3 } := fun {Q E} q => by
      obtain ⟨g1, g2, g3 | ⟨g3, g4, g5⟩⟩ := hc
      · exact ld_glob (X := X.suite a ((a, o3) :: (X.pn ++ pins))) S3 g1 g3 q g2
      · exact ld_blt (X := X.suite a ((a, o3) :: (X.pn ++ pins))) S3 g1 g3 g4 q g5 g2
    refine test (lm.here ?_)
    cases b with
    | true =>
      refine codeAny_handlers_suite_as ?_
      refine HandSPX.lands_againZ f3 fun h4 f4 u4 => ?_
      have J4 : Inv X pins σ' H' { s' with heap := h4 } := J.landed gr f4.1 ((up.trans u3).trans u4) os ag
      obtain ⟨o4, v4, he4, hz4, hd4⟩ := f4.there
      have nC : ∀ x c, X.env.cells.lookup x = some c → c ≠ a := fun y c e z => by
        obtain ⟨v, o, q, hq⟩ := J4.cell y c e
        rw [z] at q
        have q' : h4.get? a = some o := q
        rw [he4] at q'
        cases q'
        rw [hd4] at hq
        cases hq
      have T4 : Inv X pins σ' (upd H' a (exv a cls d)) { s' with heap := h4 } := track J4 n0 na nL nC nP (exv_ok he4 hz4 hd4)
      have S4 := suiteK T4 a
      refine store_ok (X := X.suite a (X.pn ++ pins)) (v := .ref a) S4 hN hi (.inl hln) rfl (fun s5 S5 => ?_) (.inr hln)
      refine wpAny_mono ((hsu a (X.pn ++ pins)).run [] s5 _ (upd H' a (exv a cls d)) _ S5 (yes rfl a na)) (fun fl s6 sp => ?_) (fun _ _ z => False.elim z)
      have fin : ∀ {σ6 : L2.St} {H6 : Hp} {Q : Shared → Prop}, Inv (X.suite a (X.pn ++ pins)) [] σ6 H6 s6 → (∀ s7, Inv X pins (σ6.set i none) H6 s7 → Q s7) →
          wpAny (model X.prog X.w) X.A (do bindName X.env n .none; unbindBehindTheSuite X.env n pos') (fun _ s7 => Q s7) X.xe s6 := fun {σ6 H6 Q} S6 hq => gone_ok (unsuiteK S6 ok) hN hi hln hq
      cases fl with
      | next =>
        obtain ⟨σ6, H6, S6, q6⟩ := sp
        exact fin S6 fun s7 J7 => ⟨_, _, J7, q6⟩
      | brk =>
        obtain ⟨σ6, H6, S6, q6⟩ := sp
        exact fin S6 fun s7 J7 => ⟨_, _, J7, q6⟩
      | cont =>
        obtain ⟨σ6, H6, S6, q6⟩ := sp
        exact fin S6 fun s7 J7 => ⟨_, _, J7, q6⟩
      | ret u =>
        obtain ⟨v6, σ6, H6, S6, r6, q6⟩ := sp
        exact fin S6 fun s7 J7 => ⟨_, _, _, J7, r6, q6⟩
    | false =>
      show wpAny _ X.A (handleBy (.ref a) X.env []) _ _ _
      refine wpAny_handleBy_nil ?_
      obtain ⟨k1, k2, k3, oe, vs, T, oT, ts', he, hz, hd, h1, hr⟩ := id f3
      unfold PySem.passOn
      refine wpAny_bind (wpAny_field he hd h1 ?_)
      rw [if_neg (show ¬ ((Value.ref T == Value.none) = true) from by simp)]
      have fin : wpAny (model X.prog X.w) X.A (setFlight (.ref a) X.env.frame) (fun _ s4 => wpAny (model X.prog X.w) X.A (throw (.ref a) : Sem Flow) (SP X pins D) X.xe s4) X.xe { s' with heap := h3 } := by
        rw [hf]
        refine HandSPX.setFlight_upZ f3 fun h4 hh4 u4 => wpAny_throw (tk _ _ ?_)
        exact ⟨a, B, sI, pins, σ', H', cls, d, rfl, J, gr, (up.trans u3).trans u4, .inr (.inr (by rw [hs]; exact hh4)), na, os, ag, no rfl⟩
      first
        | exact wpAny_bind (wpAny_pure (wpAny_bind fin))
        | exact wpAny_bind fin
  · cases fl with
    | next =>
      obtain ⟨σ', H', J', q⟩ := sp
      exact wpAny_execs_nil ⟨σ', H', J'.ofTry ok, q⟩
    | brk =>
      obtain ⟨σ', H', J', q⟩ := sp
      exact ⟨σ', H', J'.ofTry ok, q⟩
    | cont =>
      obtain ⟨σ', H', J', q⟩ := sp
      exact ⟨σ', H', J'.ofTry ok, q⟩
    | ret u =>
      obtain ⟨v, σ', H', J', r, q⟩ := sp
      exact ⟨v, σ', H', J'.ofTry ok, r, q⟩
end
/-! ### asked -/
/-- what the class D says, so that isinstance asks its instances rightly, and their attributes are read -/
theorem exv_inst {P : Program} {w : World} {H : Hp} {h : Heap} {a D : Addr} {d : Option Addr} (hok : HOk P w H h) (he : H a = some (exv a (.ref D) d)) (hd : ∀ dd, d = some dd → ∃ fs, H dd = some (.xd fs)) : ∃ oe od, PySem.W.InstAt h a oe D od := by
  obtain ⟨oe, vs, e, ⟨z1, z2⟩, dt⟩ := exv_at hok he
  cases d with
  | none => exact ⟨oe, none, e, z1, by unfold PySem.W.notCls; rw [dt] <;> rfl, by rw [z2]; trivial⟩
  | some dd =>
    obtain ⟨fs, q⟩ := hd dd rfl
    have hx : ObjOk P w H h dd (.xd fs) := hok dd _ q
    obtain ⟨mA, ⟨o, es, ep, ho, _⟩, _⟩ := hx
    exact ⟨oe, some o, e, z1, by unfold PySem.W.notCls; rw [dt] <;> rfl, by rw [z2]; exact ho⟩
/-- isinstance(e, c), e an error of the class D -/
def rIsX (K : PySem.W.Frag) : List V → Hp → VK → Prop := fun xs H Q => ∃ (a D : Addr) (d : Option Addr) (c : V) (cv : Value) (b : Bool), xs = [.ref a, c] ∧ H a = some (exv a (.ref D) d) ∧ (∀ dd, d = some dd → ∃ fs, H dd = some (.xd fs)) ∧ ExcC K D ∧ ClsV c cv ∧ PySem.W.kitOne K (.ref D) cv = some b ∧ Q (.bl b) H
theorem kit_exc {K : PySem.W.Frag} {D x : Addr} {ox : Obj} {od : Option Obj} (C : ExcC K D) : PySem.W.KitX K (.ref x) (.ref D) (fun h => PySem.W.InstAt h x ox D od) := by
  refine PySem.W.kitx_exc ?_ C.hg C.hk C.hs C.ha C.hn C.ht C.hm
  obtain ⟨cd, hc, _⟩ := PySem.W.any_some C.hd
  rw [hc] <;> rfl
theorem call_isX {X : Cx} {K : PySem.W.Frag} (hK : X.K = K) : CallR X (.builtin "isinstance") (rIsX K) := by
  subst hK
  intro pins s σ H xs us Q I r h
  obtain ⟨a, D, d, c, cv, b, rfl, he, hd, C, k, e, q⟩ := h
  obtain ⟨u1, u2, rfl, r1, r2⟩ := vals2 r
  have e2 := k.eq r2
  subst e2
  cases (show u1 = Value.ref a from r1)
  obtain ⟨oe, od, J⟩ := exv_inst I.hok he hd
  exact PySem.W.kia_one (kit_exc C) I.kIn J e (fun z => nomatch z) fun tk => ⟨.bl b, H, I.tok tk, rfl, q⟩
/-- isinstance(e, (c, ..)) -/
def rIsXT (K : PySem.W.Frag) : List V → Hp → VK → Prop := fun xs H Q => ∃ (a D : Addr) (d : Option Addr) (tp : Addr) (cs : List V) (ws : List Value) (b : Bool), xs = [.ref a, .ref tp] ∧ H a = some (exv a (.ref D) d) ∧ (∀ dd, d = some dd → ∃ fs, H dd = some (.xd fs)) ∧ ExcC K D ∧ H tp = some (.tup cs) ∧ Paired ClsV cs ws ∧ PySem.W.kitAny K (.ref D) ws = some b ∧ Q (.bl b) H
theorem call_isXT {X : Cx} {K : PySem.W.Frag} (hK : X.K = K) : CallR X (.builtin "isinstance") (rIsXT K) := by
  subst hK
  intro pins s σ H xs us Q I r h
  obtain ⟨a, D, d, tp, cs, ws, b, rfl, he, hd, C, hT, k, e, q⟩ := h
  obtain ⟨u1, u2, rfl, r1, r2⟩ := vals2 r
  cases (show u1 = Value.ref a from r1)
  cases (show u2 = Value.ref tp from r2)
  obtain ⟨oe, od, J⟩ := exv_inst I.hok he hd
  obtain ⟨_, its, rv, o, h1, h2, n, h3⟩ := (show ObjOk X.prog X.w H s.heap tp (.tup cs) from I.hok tp _ hT)
  have e3 := ClsV.all k rv
  subst e3
  obtain ⟨oc, od', odt, osl⟩ := o
  dsimp only at h2 h3
  subst h2 h3
  exact PySem.W.kia_tup (kit_exc C) I.kIn J h1 e (fun z => nomatch z) fun tk => ⟨.bl b, H, I.tok tk, rfl, q⟩
/-- e.n, e an error of the class C -/
def tExvF (n : Str) (te : TE) (K : PySem.W.Frag) : TE := fun σ H Q => te σ H fun x H1 => ∃ (a C dd : Addr) (fs : List (Str × V)) (v : V), x = .ref a ∧ XfC K C ∧ PySem.W.findIn K (.ref C) n = some none ∧ H1 a = some (exv a (.ref C) (some dd)) ∧ H1 dd = some (.xd fs) ∧ fs.lookup n = some v ∧ Q v H1
theorem pe_exvF {X : Cx} {e : Expr} {te : TE} {pos : Pos} {n : Str} (he : PE X e te) (hb : attributeBase e n X.env (eval e X.env) = eval e X.env := by rfl) : PE X (.Attribute e n pos) (tExvF n te X.K) := by
  refine ⟨fun pins s σ H Q I h => ?_⟩
  refine attr_of hb (thn (he.run pins s σ H _ I h) fun u s1 hh => ?_)
  obtain ⟨x, H1, I1, rx, a, C, dd, fs, v, ex, T, hno, ea, ed, l, q⟩ := hh
  subst ex
  obtain rfl : u = Value.ref a := rx
  obtain ⟨oe, vs, ho, hz, hdt⟩ := exv_at I1.hok ea
  have hx : ObjOk X.prog X.w H1 s1.heap dd (.xd fs) := I1.hok dd _ ed
  obtain ⟨mA, hns, hr⟩ := hx
  obtain ⟨od, hod, hl⟩ := lookIn_ns hns
  obtain ⟨u, hu, ru⟩ := RelO.some_of (v := v) (o := mA n) (by rw [← l]; exact hr n)
  have J : PySem.W.InstAt s1.heap a oe C (some od) := ⟨ho, hz.1, by unfold PySem.W.notCls; rw [hdt] <;> rfl, by rw [hz.2]; exact hod⟩
  exact HandSPX.exc_get I1.kIn J T.ga T.gg T.exC (PySem.W.findObj_own T.hdC hno rfl (by rw [hl, hu])) (handed_of ru) ⟨v, H1, I1.tok _, ru, q⟩
end Lj
set_option Elab.async false
set_option linter.all false
set_option maxRecDepth 100000
set_option maxHeartbeats 2000000
/-! # errors made by keyword, and without arguments -/
namespace Lj
open PySem PySem.W PySem.Calls PyProof.Rows PySem.HandSPX
section
variable {M : Model} {prog : Program} {w : World} {A : Around} {E : Value → Shared → Prop} {R : Result → Shared → Prop} {h : Heap} {gs : Array GenState} {dw : Drawn} {tn : Nat} {os : OsState}
variable {nm q : Str} {C N : Addr} {bs bm bmB : List Value} {hdct : Bool} {sn : List Str} {sub : List Value} {ab : Bool} {col : Option Bool} {dd : Option Addr} {k0 k1 k2 k3 k5 : Option Value} {B newId initId : String}
theorem kw_new (F : ExcBaseFacts B newId initId bmB) (hT : ∀ X : String, bm.contains (.type X) = bmB.contains (.type X)) {kw : List (Str × Value)} {Q : Unit → Shared → Prop}
    (hC : h.get? C = some (excClassObj nm q C N bs bm hdct sn sub ab col dd k0 k1 k2 k3 k5 newId)) (hq : Q () ⟨h, gs, dw, tn, os⟩) : wpAny M A (checkBuiltinCall newId ⟨[.ref C], kw⟩) Q E ⟨h, gs, dw, tn, os⟩ := by
  have c1 : (Value.ref C :: bm).contains (.type B) = true := by rw [List.contains_cons, hT, F.hasB, Bool.or_true]
  have st := F.noStar
  simp only [checkBuiltinCall, F.newKind, F.newSplit, F.newRow]
  repeat (first | (refine wpAny_loadPart_at hC ?_) | (refine wpAny_isSubtype_exc hC ?_; rw [c1]) | (refine wpAny_staticBase_exc hC ?_) | (refine wpAny_madeBy_exc hC ?_) | (simp only [bne_self_eq_false, Bool.false_eq_true, if_false]) | wp_step)
  exact hq
theorem kw_made (F : ExcBaseFacts B newId initId bmB) (hT : ∀ X : String, bm.contains (.type X) = bmB.contains (.type X)) {kw : List (Str × Value)}
    (hC : h.get? C = some (excClassObj nm q C N bs bm hdct sn sub ab col dd k0 k1 k2 k3 k5 newId))
    (hq : R (.ok (.ret (.ref (h.objs.size + 1)))) ⟨(h.push (kdv_tup [])).push (excO C h.objs.size), gs, dw, tn, os⟩) :
    codeAny (model prog w) A (.builtin newId ⟨[.ref C], kw⟩) R ⟨h, gs, dw, tn, os⟩ := by
  have en := F.ends
  have c1 : (Value.ref C :: bm).contains (.type B) = true := by rw [List.contains_cons, hT, F.hasB, Bool.or_true]
  have c2 : (Value.ref C :: bm).contains (.type "AttributeError") = false := by rw [List.contains_cons, hT, F.noAttr] <;> rfl
  have c3 : (Value.ref C :: bm).contains (.type "NameError") = false := by rw [List.contains_cons, hT, F.noName] <;> rfl
  refine codeAny_builtinAt F.entry ?_
  unfold Builtin.«BaseException.__new__»
  refine PySem.wpAt_bind ?_
  show PySem.wpAt _ _ _ (stack >>= _) _ _ _
  refine PySem.wpAt_bind (PySem.wpAt_stack fun p below => PySem.wpAt_of_wpAny ?_)
  wp_walk
  refine PySem.wpAt_of_wpAny ?_
  rw [F.owner]
  repeat (first | (with_reducible refine wpAny_madeHere_exc F.canon hC ?_) | (with_reducible refine wpAny_loadPart_at hC ?_) | (with_reducible refine wpAny_isSubtype_exc hC ?_; first | rw [c1] | rw [c2] | rw [c3]) | wp_step)
  show R _ _
  rw [Heap.size_push]
  exact hq
theorem kw_type (F : ExcBaseFacts B newId initId bmB) (hT : ∀ X : String, bm.contains (.type X) = bmB.contains (.type X)) {kw : List (Str × Value)} {fI : Addr} {Q : Fin → Shared → Prop}
    (hC : h.get? C = some (excClassObj nm q C N bs bm hdct sn sub ab col dd k0 k1 k2 k3 k5 newId))
    (hi : Looks (model prog w) h (typeLookup (.ref C) "__init__") (some (.ref fI))) (hb : ∀ self, Looks (model prog w) h (bindSpecial (.ref fI) self) (.ref fI, [self]))
    (hq : codeAny (model prog w) A (.call (.ref fI) ⟨[.ref (h.objs.size + 1)], kw⟩)
      (fun r s' => match r with | .ok (.ret v) => v = .none ∧ Q (.done (.ret (.ref (h.objs.size + 1)))) s' | .ok _ => False | .error e => E e s') ⟨(h.push (kdv_tup [])).push (excO C h.objs.size), gs, dw, tn, os⟩) :
    wpAny (model prog w) A (Builtin.«type.__call__» ⟨[.ref C], kw⟩) Q E ⟨h, gs, dw, tn, os⟩ := by
  repeat (first | (with_reducible refine wpAny_loadPart_at hC ?_) | (with_reducible refine wpAny_madeBy_exc hC ?_) | wp_step)
  refine codeAny_call_builtin_code (Code.quiet_builtin _ F.quiet) (kw_new F hT hC ?_)
  refine kw_made F hT hC ?_
  show wpAny _ _ _ _ _ _
  have k : ∀ b o, h.get? b = some o → ((h.push (kdv_tup [])).push (excO C h.objs.size)).get? b = some o := fun b o e => Heap.get?_push_of_some _ (Heap.get?_push_of_some _ e)
  have hC2 := k _ _ hC
  have hx : ((h.push (kdv_tup [])).push (excO C h.objs.size)).get? (h.objs.size + 1) = some (excO C h.objs.size) := by heap_get
  have c4 : (Value.ref C :: bm).contains (.ref C) = true := by simp
  have i2 := hi.keeps k
  have b2 := (hb (.ref (h.objs.size + 1))).keeps k
  unfold isInstance
  repeat (first | (with_reducible refine wpAny_loadPart_at hx ?_) | (with_reducible refine wpAny_isSubtype_exc hC2 ?_; rw [c4]) | wp_step)
  show wpAny _ _ (typeLookup (.ref C) _) _ _ _
  refine i2.at ?_
  refine wpAny_holding (wpAny_bind (b2.at ?_))
  refine wpAny_bind (wpAny_call (codeAny_mono hq fun r s' z => ?_))
  rcases r with e | (v | _ | _ | _) <;> first | exact z | exact z.elim | skip
  obtain ⟨rfl, z⟩ := z
  first
    | exact wpAny_pure (wpAny_pure z)
    | (wp_walk; exact z)
theorem kw_check {kw : List (Str × Value)} {Q : Unit → Shared → Prop} (hC : h.get? C = some (excClassObj nm q C N bs bm hdct sn sub ab col dd k0 k1 k2 k3 k5 newId))
    (hq : Q () ⟨h, gs, dw, tn, os⟩) : wpAny M A (checkBuiltinCall "type.__call__" ⟨[.ref C], kw⟩) Q E ⟨h, gs, dw, tn, os⟩ := by
  have f3 := tc_sub
  have ty : (⟨h, gs, dw, tn, os⟩ : Shared).TypeIs (.ref C) "type" := ⟨_, hC, rfl⟩
  simp only [checkBuiltinCall, tc_kind, tc_split]
  repeat (any_goals (first | assumption | (with_reducible refine wpAny_loadPart_at hC ?_) | (with_reducible refine wpAny_onRaise ?_) | (with_reducible refine wpAny_map ?_) | wp_step))
theorem kw_call (F : ExcBaseFacts B newId initId bmB) (hT : ∀ X : String, bm.contains (.type X) = bmB.contains (.type X)) {kw : List (Str × Value)} {fI : Addr}
    (hC : h.get? C = some (excClassObj nm q C N bs bm hdct sn sub ab col dd k0 k1 k2 k3 k5 newId))
    (hi : Looks (model prog w) h (typeLookup (.ref C) "__init__") (some (.ref fI))) (hb : ∀ self, Looks (model prog w) h (bindSpecial (.ref fI) self) (.ref fI, [self]))
    (hq : codeAny (model prog w) (A.under (.builtin "type.__call__" ⟨[.ref C], kw⟩)) (.call (.ref fI) ⟨[.ref (h.objs.size + 1)], kw⟩) (InitBack (h.objs.size + 1) R) ⟨(h.push (kdv_tup [])).push (excO C h.objs.size), gs, dw, tn, os⟩) :
    codeAny (model prog w) A (.call (.ref C) ⟨[], kw⟩) R ⟨h, gs, dw, tn, os⟩ := by
  have f1 := tc_lookup
  have f2 := tc_bind (.ref C)
  have ty : (⟨h, gs, dw, tn, os⟩ : Shared).TypeIs (.ref C) "type" := ⟨_, hC, rfl⟩
  refine codeAny_of_tree ?_
  show wpAny _ _ (callAny (.ref C) _) _ _ _
  repeat (any_goals (first | assumption | (with_reducible refine wpAny_loadPart_at hC ?_) | wp_step))
  refine ⟨rfl, ?_⟩
  refine codeAny_call_builtin_at (Code.quiet_builtin _ (by decide +kernel)) entry_typeCall (kw_check hC (kw_type F hT hC hi hb ?_))
  refine codeAny_mono hq fun r s' z => ?_
  rcases r with e | (v | _ | _ | _) <;> exact z
end
end Lj
namespace Lj
open PySem PySem.W PySem.Calls PyProof.Rows PySem.HandSPX
section
variable {prog : Program} {w : World} {A : Around} {R : Result → Shared → Prop} {s : Shared} {K : Frag} {mg mb : Str → Option Value} {x f : Str} {C fI : Addr}
theorem err_madeK (T : ErrTxt prog K mg x f C fI) {v : Value} (X : K.In s.heap) (hlim : s.heap.NoLimit) (hG : s.heap.Ns mainGlobals mg) (hB : s.heap.Ns builtinsNs mb) (hmb : ∀ x : Str, x ≠ "__name__" → mb x = bootBuiltins x) (hroom : A.depth + 1 < recursionLimit)
    (hq : ∀ h' tk e d, OwnMade f s.heap h' e C d v → R (.ok (.ret (.ref e))) { s with heap := h', toks := tk }) :
    codeAny (model prog w) A (.call (.ref C) ⟨[], [(f, v)]⟩) R s := by
  obtain ⟨nm, q, N, bs, bm, sn, sub, ab, col, dd, k0, k1, k2, k3, k5, hC, hbm⟩ := T.cls
  obtain ⟨hp, gg, dr, tk, os⟩ := s
  have k : ∀ b o, hp.get? b = some o → ((hp.push (kdv_tup [])).push (excO C hp.objs.size)).get? b = some o := fun b o e => Heap.get?_push_of_some _ (Heap.get?_push_of_some _ e)
  have hx : ((hp.push (kdv_tup [])).push (excO C hp.objs.size)).get? (hp.objs.size + 1) = some (excO C hp.objs.size) := by heap_get
  have hnx : K.lookup (hp.objs.size + 1) = none := by
    cases e : K.lookup (hp.objs.size + 1) with
    | none => rfl
    | some o =>
      have z : hp.get? (hp.objs.size + 1) = some o := X _ _ e
      exact absurd (Nat.lt_of_succ_lt (Heap.lt_size z)) (Nat.lt_irrefl _)
  refine kw_call F.excBase_ValueError (fun X => refsVE_contains X bm hbm) (X _ _ hC) (looks_findIn X T.iC) (fun self => bind_fn X self T.tC) ?_
  refine err_initA (s := ⟨(hp.push (kdv_tup [])).push (excO C hp.objs.size), gg, dr, tk, os⟩) T (fun _ _ _ _ _ _ _ _ _ _ => T.nm.bk _ _ _ _ _ _ _ _ _ _ _ _) (X.keeps k) (hlim.keeps k) (hG.keeps k) (hB.keeps k) hmb hx hnx ?_ fun h' tk' dx ⟨k', ho, dn, dne, hns⟩ => ?_
  · show A.depth + 1 < recursionLimit
    exact hroom
  · have old : ∀ b o, hp.get? b = some o → h'.get? b = some o := fun b o e => k' b o (Nat.ne_of_lt (Nat.lt_succ_of_lt (Heap.lt_size e))) (k b o e)
    have z : hp.objs.size + 1 + 1 ≤ dx := by
      first
        | (simpa only [Heap.size_push] using dn)
        | exact dn
    obtain ⟨t1, ho⟩ := ho
    exact ⟨rfl, hq h' tk' (hp.objs.size + 1) dx ⟨old, Nat.le_succ _, ⟨_, _, ho, rfl, rfl, rfl, rfl⟩, Nat.le_trans (Nat.le_trans (Nat.le_succ _) (Nat.le_succ _)) z, dne, hns⟩⟩
end
end Lj
namespace Lj
open PySem PySem.Spec PyProof.Rows L2
section
variable {X : Cx} {C fI : Addr} {x f : Str}
/-- a made error is a value -/
theorem made_val {pins : List (Addr × Obj)} {σ : L2.St} {H : Hp} {hp h' : Heap} {gg : Array GenState} {dr : Drawn} {tk tk' : Nat} {os : OsState} {e d : Addr} {v : V} {u : Value} {Q : VK} (I : Inv X pins σ H ⟨hp, gg, dr, tk, os⟩) (M : OwnMade f hp h' e C d u) (r : RelV v u)
    (q : ∀ e d, H e = none → H d = none → d ≠ e → Q (.ref e) (upd (upd H d (.xd [(f, v)])) e (exv e (.ref C) (some d)))) : EP X pins σ Q (.ref e) ⟨h', gg, dr, tk', os⟩ := by
  obtain ⟨oe, fv, hoe, hc, hd, hdat, h1⟩ := M.obj
  have hns := M.ns
  obtain ⟨G', g1, g2⟩ := restrict h' fun b => decide (b ≠ e)
  have gk : ∀ b, b ≠ e → G'.get? b = h'.get? b := fun b hb => g1 b (decide_eq_true hb)
  have ge : G'.get? e = none := g2 e (by simp)
  have old : ∀ b o, hp.get? b = some o → G'.get? b = some o := fun b o q => (gk b (Nat.ne_of_lt (Nat.lt_of_lt_of_le (Heap.lt_size q) M.new))).trans (M.keep b o q)
  have ob : ObjOk X.prog X.w (upd H d (.xd [(f, v)])) G' d (.xd [(f, v)]) := ⟨_, hns.at (fun o q => (gk d M.dne).trans q), fun f => relO_put (fs := []) (mA := fun _ => none) r (fun _ => True.intro) f⟩
  have J : Inv X pins σ (upd H d (.xd [(f, v)])) ⟨G', gg, dr, tk', os⟩ := I.laid (t' := tk') old M.dbig ob
  have ne : H e = none := I.hok.fresh M.new
  have nd : H d = none := I.hok.fresh M.dbig
  have J2 := J.laidN (h' := h') (a := e) (o := exv e (.ref C) (some d)) (t' := tk') (fun b o q => by
    by_cases hb : b = e
    · have q' : G'.get? b = some o := q
      rw [hb, ge] at q'
      cases q'
    · exact (gk b hb).symm.trans q) ge (by rw [upd_ne (Ne.symm M.dne)]; exact ne) (exv_ok hoe ⟨hc, hd⟩ hdat)
  exact ⟨.ref e, _, J2, rfl, q e d ne nd M.dne⟩
/-- x(e), kept as a value -/
def tNewErr (f : Str) (C : Addr) (ta : TA) : TE := fun σ H Q => ta σ H fun vs H1 => ∃ v, vs = [v] ∧ ∀ e d, H1 e = none → H1 d = none → d ≠ e → Q (.ref e) (upd (upd H1 d (.xd [(f, v)])) e (exv e (.ref C) (some d)))
theorem pe_newErr {a : Expr} {ta : TA} {p pos : Pos} {k : Nat} (T : ErrTxt X.prog X.K X.mg x f C fI) (hr : Room k X.A) (ha : PA X [a] ta) (hg : Gl X x) (hdb : (x == ("__debug__" : Str)) = false := by decide)
    (he : starEach (a :: []) X.env = (false, eval a X.env) :: starEach [] X.env := by rfl) (hpl : (backTo pos (starEach [] X.env)).any (·.1) = false := by rfl) :
    PE X (.Call (.Name x p) [a] [] pos) (tNewErr f C ta) := by
  refine ⟨fun pins s σ H Q I h => ?_⟩
  refine wpAny_Call_Name_kw (ld_glob I hg T.gC ?_ hdb)
  refine PySem.W.callWith_K (h₀ := X.base) I.ok.mod.kin T.kC (thn (ha.run pos pins s σ H _ I h) fun us s1 hh => ?_) he hpl
  obtain ⟨vs, H1, I1, r1, v, ev, q1⟩ := hh
  subst ev
  obtain ⟨u, rfl, ru⟩ := r1.one
  refine ⟨I1.kIn, ?_⟩
  have hlim := I1.nolimit
  obtain ⟨mb, hb1, hb2⟩ := I1.mod.blt
  have hG := I1.mod.glob.keeps I1.bk
  have hB := hb1.keeps I1.bk
  obtain ⟨hp, g, dr, tk, os⟩ := s1
  exact wpAny_call (err_made T I1.kIn hlim hG hB hb2 (by have := hr.dp; omega) fun h' tk' e d M => made_val (tk' := tk') I1 M ru q1)
/-- x(f = e) -/
theorem pe_newErrK {kws : List Keyword} {tk : TA} {p pos : Pos} {k : Nat} (T : ErrTxt X.prog X.K X.mg x f C fI) (hr : Room k X.A) (hkw : PK X kws tk) (hg : Gl X x) (hdb : (x == ("__debug__" : Str)) = false := by decide)
    (hall : (backToKw pos (keywordEach kws X.env)).all (·.1.isSome) = true := by rfl) (hks : (backToKw pos (keywordEach kws X.env)).filterMap (·.1) = [f] := by rfl)
    (hpl : ((backTo pos (starEach [] X.env)).any (·.1) || (backToKw pos (keywordEach kws X.env)).any (·.1.isNone)) = false := by rfl) :
    PE X (.Call (.Name x p) [] kws pos) (tNewErr f C tk) := by
  refine ⟨fun pins s σ H Q I h => ?_⟩
  refine wpAny_Call_Name_kw (ld_glob I hg T.gC ?_ hdb)
  refine PySem.W.callWith_KW0 (h₀ := X.base) I.ok.mod.kin T.kC hall (thn (hkw.run pos pins s σ H _ I h) fun ws s1 ⟨vs, H1, I1, r1, v, ev, q1⟩ => ⟨I1.kIn, ?_⟩) hpl
  rw [hks]
  subst ev
  obtain ⟨u, rfl, ru⟩ := r1.one
  have hlim := I1.nolimit
  obtain ⟨mb, hb1, hb2⟩ := I1.mod.blt
  have hG := I1.mod.glob.keeps I1.bk
  have hB := hb1.keeps I1.bk
  obtain ⟨hp, g, dr, tk, os⟩ := s1
  exact wpAny_call (err_madeK T I1.kIn hlim hG hB hb2 (by have := hr.dp; omega) fun h' tk' e d M => made_val (tk' := tk') I1 M ru q1)
/-- x(), an error without an own __init__ -/
theorem pe_newErr0 {p pos : Pos} (q : PySem.W.excIn X.K C [.type "ValueError", .type "Exception", .type "BaseException", .type "object"] "ValueError.__new__" = true) (gC : X.mg x = some (.ref C)) (kC : PySem.W.keepIn X.K (.ref C) = true) (hg : Gl X x) (hdb : (x == ("__debug__" : Str)) = false := by decide) :
    PE X (.Call (.Name x p) [] [] pos) (fun _ H Q => ∀ a, H a = none → Q (.ref a) (upd H a (exv a (.ref C) none))) := by
  refine ⟨fun pins s σ H Q I h => ?_⟩
  refine wpAny_Call_Name_kw (ld_glob I hg gC ?_ hdb)
  refine PySem.W.callWith_K0 I.kIn kC ?_
  obtain ⟨bm, N, nm, qn, bs, hdct, sn, sub, ab, col, dd, k0, k1, k2, k3, k5, mN, hC, hN, hni, T⟩ := exc_obj I.kIn q
  refine wpAny_call_exc_subT F.excBase_ValueError T hC hN hni (fun h' a hm => ?_) (Nat.zero_le _)
  have hn : H a = none := I.hok.gone hm.new
  obtain ⟨t, ht, _, _⟩ := hm.there
  exact ⟨.ref a, _, I.laidN hm.keeps hm.new hn (exv_ok ht ⟨rfl, rfl⟩ rfl), rfl, h a hn⟩
end
end Lj
set_option Elab.async false
set_option linter.all false
set_option maxRecDepth 100000
set_option pp.maxSteps 500
set_option pp.deepTerms.threshold 8
set_option pp.deepTerms false
namespace K15
open PySem PySem.Spec PyProof.Rows L2 Lj
def topS (i : Nat) : Stmt := PySem.Challenge.pw_leastjournal_k15_errors_by_themselves.main.body.getD i (.Pass ⟨0, 0, 0, 0⟩)
abbrev sUrn : Stmt := topS 16
theorem scUrn : FnScope ["_law_script", "_law_k", "_law_cell", "_law_own"] ["_law_script", "_law_k"] (defScope sUrn) := ⟨rfl, rfl, rfl, by decide +kernel, rfl, by decide +kernel, by decide +kernel⟩
abbrev sTake : Stmt := topS 17
theorem scTake : FnScope ["_law_urn_here", "_law_below", "_law_digit", "_law_mixed"] ["_law_urn_here", "_law_below"] (defScope sTake) := ⟨rfl, rfl, rfl, by decide +kernel, rfl, by decide +kernel, by decide +kernel⟩
abbrev sOf : Stmt := topS 18
theorem scOf : FnScope ["_law_urn_here", "_law_items"] ["_law_urn_here", "_law_items"] (defScope sOf) := ⟨rfl, rfl, rfl, by decide +kernel, rfl, by decide +kernel, by decide +kernel⟩
abbrev sMade : Stmt := topS 19
theorem scMade : FnScope ["_law_thing", "_law_found"] ["_law_thing"] (defScope sMade) := ⟨rfl, rfl, rfl, by decide +kernel, rfl, by decide +kernel, by decide +kernel⟩
abbrev sNamed : Stmt := topS 20
theorem scNamed : FnScope ["_law_held", "_law_found"] ["_law_held"] (defScope sNamed) := ⟨rfl, rfl, rfl, by decide +kernel, rfl, by decide +kernel, by decide +kernel⟩
abbrev sKinds : Stmt := topS 21
theorem scKinds : FnScope ["_law_one", "_law_found"] ["_law_one"] (defScope sKinds) := ⟨rfl, rfl, rfl, by decide +kernel, rfl, by decide +kernel, by decide +kernel⟩
abbrev sValues : Stmt := topS 22
theorem scValues : FnScope ["_law_some", "_law_found"] ["_law_some"] (defScope sValues) := ⟨rfl, rfl, rfl, by decide +kernel, rfl, by decide +kernel, by decide +kernel⟩
abbrev sRight : Stmt := topS 23
theorem scRight : FnScope ["_law_held", "_law_some", "_law_at", "_law_one", "_law_named_here", "_law_other"] ["_law_held"] (defScope sRight) := ⟨rfl, rfl, rfl, by decide +kernel, rfl, by decide +kernel, by decide +kernel⟩
abbrev sLaw : Stmt := topS 24
theorem scLaw : FnScope ["_law_script", "_law_urn_here", "_law_some", "_law_turn"] ["_law_script"] (defScope sLaw) := ⟨rfl, rfl, rfl, by decide +kernel, rfl, by decide +kernel, by decide +kernel⟩
abbrev sE0 : Stmt := inClass (topS 2) 0
abbrev sE1 : Stmt := inClass (topS 3) 0
abbrev sE2 : Stmt := inClass (topS 4) 0
abbrev sE3 : Stmt := inClass (topS 5) 0
abbrev sE4 : Stmt := inClass (topS 6) 0
abbrev sE5 : Stmt := inClass (topS 7) 0
abbrev sE6 : Stmt := inClass (topS 8) 0
abbrev sE7 : Stmt := inClass (topS 9) 0
abbrev sE8 : Stmt := inClass (topS 10) 0
abbrev sE9 : Stmt := inClass (topS 11) 0
abbrev sE10 : Stmt := inClass (topS 12) 0
section
variable {P : Program} {w : World} {K : PySem.W.Frag} {mg : Str → Option Value} {base : Heap}
theorem ok_urn {f : Addr} {fd : FuncData} {k : Nat} (F : Fun K "_law_urn" "_law_urn" sUrn f fd) (ml : mg "len" = none) (ma : mg "abs" = none) (mi : mg "int" = none) :
    FnOk P w K mg base CX0 (k + 1) f fd ["_law_script", "_law_k"] (spUrn K) := by
  refine F.ok scUrn (fun vs H Q E h => ?_) (fun cdv A outer s H vs Q E hr h => ?_)
  · obtain ⟨a, ns, k, rfl, _⟩ := h
    rfl
  obtain ⟨a, ns, k, rfl, hS, h0, h1, q⟩ := h
  refine ⟨_, Evl.pss_cut (ps_set (i := 2) scUrn.nd rfl (.inl rfl) (pe_ifExp (pt_cmpR op_lt (pv 1) (pe_callB call_len_seq (by rfl) ml PySem.boot_len (pa_cons (pv 0) pa_nil)) (nomark _)) (pe_ix ix_list (pv 0) (pv 1) (fun _ _ => rfl)) (pe_op op_add (pe_op op_mul pe_int (pv 1)) pe_int)))
    (pss_cons (ps_set (i := 3) scUrn.nd rfl (.inl rfl) (pe_op op_mul (pe_op op_mod (pe_callB call_abs (by rfl) ma (by decide +kernel) (pa_cons (pv 2) pa_nil)) (pe_callTy call_int_str (by rfl) mi (by decide +kernel) (pa_cons (pe_op op_add_str pe_str (pe_op op_mulS pe_str pe_int)) pa_nil)))
       (pe_callTy call_int1 (by rfl) mi (by decide +kernel) (pa_cons (pe_cmpR op_ge (pe_callB call_abs (by rfl) ma (by decide +kernel) (pa_cons (pv 2) pa_nil)) (pe_op op_pow pe_int pe_int) (nomark _)) pa_nil))))
    (pss_one (ps_ret (pe_lst (pa_cons (pv 3) (pa_cons (pe_op op_mod (pe_op op_mul (pe_op op_add (pe_op op_add (pe_op op_mod (pv 2) pe_int) (pe_op op_mul (pe_op op_mul pe_int (pv 1)) (pv 1))) pe_int) pe_int) pe_int) pa_nil)))))), ?_⟩
  refine ⟨fun σ H' => ∃ c : Int, σ = [some (.ref a), some (.int k), some (.int c), none] ∧ H' = H, ?_, ?_⟩
  · refine ⟨_, rfl, _, rfl, a, _, rfl, .inl hS, _, _, rfl, rfl, _, rfl, ite2 (fun c => ?_) (fun c => ?_)⟩
    · have c' : k < (((ns.map V.int).length : Nat) : Int) := of_decide_eq_true c
      rw [List.length_map] at c'
      obtain ⟨v, _, hv⟩ := at_int (ns := ns) h0 c'
      exact ⟨_, rfl, _, rfl, a, _, _, _, rfl, rfl, hS, hv, v, rfl, rfl⟩
    · exact ⟨_, rfl, 3, k, rfl, rfl, .inl ⟨by decide, by decide⟩, _, _, rfl, rfl, _, rfl, rfl⟩
  · rintro σ' H' ⟨c, rfl, rfl⟩
    refine ⟨_, rfl, c, rfl, _, _, rfl, rfl, mul_ok0, _, _, rfl, rfl, (by decide +kernel), _, _, rfl, urnText_int, urnText_len, _, _, rfl, rfl, (by show (0 : Int) < 10 ^ 300; decide +kernel), _, rfl, c, rfl, 10, 18, rfl, rfl, ⟨by decide, by decide, by decide⟩, _, _, rfl, rfl, .inr ⟨_, rfl, _, _, rfl, rfl, .inr ?_, ?_⟩⟩
    · exact ind_bd _
    obtain ⟨o1, o2⟩ := own_lt c (decide (10 ^ (18 : Int).toNat ≤ if c < 0 then -c else c))
    refine ⟨_, rfl, _, rfl, c, _, rfl, rfl, (by show (0 : Int) < 2305843009213693951; decide), _, rfl, 7919, k, rfl, rfl, .inl ⟨by decide, by decide⟩, _, rfl, _, k, rfl, rfl, .inl ⟨by omega, by omega⟩, _, _, rfl, rfl, _, _, rfl, rfl, _, _, rfl, rfl, .inr ⟨by decide, by decide⟩, _, _, rfl, rfl, (by show (0 : Int) < 2305843009213693951; decide), (by show 2 ≤ sizeLine; decide), fun p np => ?_⟩
    exact q _ p (same_new np) np ⟨_, _, upd_same, o1, o2, Int.emod_nonneg _ (by decide), Int.emod_lt_of_pos _ (by decide)⟩
theorem ok_take {f : Addr} {fd : FuncData} {k : Nat} (F : Fun K "_law_take" "_law_take" sTake f fd) :
    FnOk P w K mg base CX0 (k + 1) f fd ["_law_urn_here", "_law_below"] spTake := by
  refine F.ok scTake (fun vs H Q E h => ?_) (fun cdv A outer s H vs Q E hr h => ?_)
  · obtain ⟨p, n, rfl, _⟩ := h
    rfl
  obtain ⟨p, n, rfl, ⟨u, v, hp, u0, u1, v0, v1⟩, n0, n1, q⟩ := h
  refine ⟨_, pss_cons (ps_if (pt_cmpR op_gt (pe_ix ix_list (pv 0) pe_int (fun _ _ => rfl)) pe_int (nomark _))
      (pss_cons (ps_set (i := 2) scTake.nd rfl (.inl rfl) (pe_op op_mod (pe_ix ix_list (pv 0) pe_int (fun _ _ => rfl)) (pv 1)))
      (pss_cons (ps_asg (pe_op op_fdivW (pe_ix ix_list (pv 0) pe_int (fun _ _ => rfl)) (pv 1)) (pg_sub (pv 0) pe_int set_list))
      (pss_one (ps_ret (pv 2))))) pss_nil)
    (pss_cons (ps_asg (pe_op op_mod (pe_op op_add (pe_op op_mul (pe_ix ix_list (pv 0) pe_int (fun _ _ => rfl)) pe_int) pe_int) pe_int) (pg_sub (pv 0) pe_int set_list))
    (pss_cons (ps_set (i := 3) scTake.nd rfl (.inl rfl) (pe_op op_mod (pe_op op_mul (pe_op op_fdiv (pe_ix ix_list (pv 0) pe_int (fun _ _ => rfl)) pe_int) (pe_op op_add (pe_op op_mod (pe_ix ix_list (pv 0) pe_int (fun _ _ => rfl)) pe_int) pe_int)) pe_int))
    (Evl.pss_cut (ps_if (pt_cmpR op_gt (pv 1) (pe_op op_pow pe_int pe_int) (nomark _))
      (pss_cons (ps_asg (pe_op op_mod (pe_op op_add (pe_op op_mul (pe_ix ix_list (pv 0) pe_int (fun _ _ => rfl)) pe_int) pe_int) pe_int) (pg_sub (pv 0) pe_int set_list))
      (pss_one (ps_set (i := 3) scTake.nd rfl (.inl rfl) (pe_op op_add (pe_op op_mul (pv 3) pe_int) (pe_ix ix_list (pv 0) pe_int (fun _ _ => rfl)))))) pss_nil)
    (pss_one (ps_ret (pe_op op_mod (pe_op op_fdiv (pv 3) pe_int) (pv 1))))))), ?_⟩
  refine ⟨_, rfl, p, _, 0, .int u, rfl, rfl, SqL.of hp, rfl, _, _, rfl, rfl, _, rfl, ite2 (fun c => ?_) (fun c => ?_)⟩
  · have c' : 0 < u := of_decide_eq_true c
    refine ⟨_, rfl, p, _, 0, .int u, rfl, rfl, SqL.of hp, rfl, _, rfl, u, n, rfl, rfl, n0, ?_⟩
    refine ⟨_, rfl, p, _, 0, .int u, rfl, rfl, SqL.of hp, rfl, _, rfl, u, n, rfl, rfl, wide_div (b := 1000) n0 n1 (by decide) (by decide), _, rfl, p, _, 0, 0, rfl, rfl, hp, rfl, _, rfl, ?_⟩
    refine q _ _ (Int.emod_nonneg _ (by omega)) (Int.emod_lt_of_pos _ n0) ⟨_, v, upd_same, ?_, ?_, v0, v1⟩ But.upd
    · exact Int.ediv_nonneg (by omega) (by omega)
    · have h1 : 0 ≤ u / n := Int.ediv_nonneg (by omega) (by omega)
      have h2 : u / n ≤ u := Int.ediv_le_self _ (by omega)
      omega
  · refine ⟨_, rfl, p, _, 1, .int v, rfl, rfl, SqL.of hp, rfl, v, _, rfl, rfl, .inl ⟨by omega, by omega⟩, _, _, rfl, rfl, _, _, rfl, rfl, (by show (0 : Int) < 2305843009213693951; decide), _, rfl, p, _, 1, 1, rfl, rfl, hp, rfl, ?_⟩
    have w0 := nx0 v
    have w1 := nx1 v
    have hx : (upd H p (.lst [.int u, .int (nx v)])) p = some (.lst [.int u, .int (nx v)]) := upd_same
    refine ⟨_, rfl, p, _, 1, .int (nx v), rfl, rfl, SqL.of hx, rfl, nx v, _, rfl, rfl, ⟨by decide, by decide⟩, _, rfl, p, _, 1, .int (nx v), rfl, rfl, SqL.of hx, rfl, nx v, _, rfl, rfl, (by show (0 : Int) < 65537; decide), _, _, rfl, rfl, _, _, rfl, rfl, .inr ⟨by omega, by omega⟩, _, _, rfl, rfl, (by show (0 : Int) < 2305843009213693921; decide), ?_⟩
    refine ⟨fun σ H' => ∃ m y : Int, σ = [some (.ref p), some (.int n), none, some (.int m)] ∧ H' = upd H p (.lst [.int u, .int y]) ∧ 0 ≤ y ∧ y < 2305843009213693951, ?_, ?_⟩
    · refine ⟨_, rfl, 10, 9, rfl, rfl, ⟨by decide, by decide, by decide⟩, _, _, rfl, rfl, _, rfl, ite2 (fun c => ?_) (fun c => ?_)⟩
      · refine ⟨_, rfl, p, _, 1, .int (nx v), rfl, rfl, SqL.of hx, rfl, nx v, _, rfl, rfl, .inl ⟨by omega, by omega⟩, _, _, rfl, rfl, _, _, rfl, rfl, (by show (0 : Int) < 2305843009213693951; decide), _, rfl, p, _, 1, 1, rfl, rfl, hx, rfl, ?_⟩
        have hy : (upd (upd H p (.lst [.int u, .int (nx v)])) p (.lst [.int u, .int (ny (nx v))])) p = some (.lst [.int u, .int (ny (nx v))]) := upd_same
        refine ⟨_, rfl, _, _, rfl, rfl, .inr ⟨by decide, by decide⟩, _, rfl, p, _, 1, .int (ny (nx v)), rfl, rfl, SqL.of hy, rfl, _, _, rfl, rfl, ?_⟩
        exact ⟨_, ny (nx v), rfl, upd_upd, ny0 _, ny1 _⟩
      · exact ⟨_, nx v, rfl, rfl, w0, w1⟩
    · rintro σ' H' ⟨m, y, rfl, rfl, y0, y1⟩
      refine ⟨_, rfl, m, 97, rfl, rfl, ⟨by decide, by decide⟩, _, rfl, _, n, rfl, rfl, n0, ?_⟩
      exact q _ _ (Int.emod_nonneg _ (by omega)) (Int.emod_lt_of_pos _ n0) ⟨u, y, upd_same, u0, u1, y0, y1⟩ But.upd
theorem ok_of {f fT : Addr} {fd fdT : FuncData} {k : Nat} (F : Fun K "_law_of" "_law_of" sOf f fd) (FT : Fun K "_law_take" "_law_take" sTake fT fdT) (bT : Binds K fdT ["_law_urn_here", "_law_below"] []) (gT : mg "_law_take" = some (.ref fT)) (ml : mg "len" = none) :
    FnOk P w K mg base CX0 (k + 2) f fd ["_law_urn_here", "_law_items"] (spOf K) := by
  have GT : FnOk P w K mg base CX0 (k + 1) fT fdT ["_law_urn_here", "_law_below"] spTake := ok_take FT
  refine F.ok scOf (fun vs H Q E h => ?_) (fun cdv A outer s H vs Q E hr h => ?_)
  · obtain ⟨p, r, xs, rfl, _⟩ := h
    rfl
  obtain ⟨p, r, xs, rfl, hU, nr, hr2, hx, hl, q⟩ := h
  refine ⟨_, pss_one (ps_ret (pe_ix ix_list (pv 1) (pe_call GT hr (by rfl) gT FT.kp bT .nil pass0 (pa_cons (pv 0) (pa_cons (pe_callB call_len_seq (by rfl) ml PySem.boot_len (pa_cons (pv 1) pa_nil)) pa_nil))) (fun _ _ => rfl))), ?_⟩
  have l0 : 0 < xs.length := List.length_pos_iff.mpr hx
  have l1 : (1000 : Nat) < wide := by decide +kernel
  refine ⟨_, rfl, _, rfl, _, rfl, r, xs, rfl, .inl hr2, p, _, rfl, hU, by omega, by omega, fun d H' d0 d1 hU' hb => ?_⟩
  obtain ⟨x, mx, hx2⟩ := at_any (xs := xs) d0 d1
  exact ⟨r, xs, d, x, rfl, rfl, hb.seq nr hr2, hx2, q x H' mx hU' hb⟩
end

/-- at v: an error of the class C, with its attribute -/
def ErrAt (H : Hp) (s : Addr × Option (Str × V)) (v : V) : Prop := ∃ a, v = .ref a ∧ match s.2 with
  | none => H a = some (exv a (.ref s.1) none)
  | some (f, x) => ∃ d, H a = some (exv a (.ref s.1) (some d)) ∧ H d = some (.xd [(f, x)])
theorem ErrAt.same {H H' : Hp} {s : Addr × Option (Str × V)} {v : V} (k : Same H H') (h : ErrAt H s v) : ErrAt H' s v := by
  obtain ⟨a, e, h⟩ := h
  refine ⟨a, e, ?_⟩
  obtain ⟨C, o⟩ := s
  cases o with
  | none => exact k _ _ h
  | some p =>
    obtain ⟨d, h1, h2⟩ := h
    exact ⟨d, k _ _ h1, k _ _ h2⟩
def ErrsAt (H : Hp) : List (Addr × Option (Str × V)) → List V → Prop := Paired (ErrAt H)
theorem ErrsAt.same {H H' : Hp} (k : Same H H') : ∀ {ss : List (Addr × Option (Str × V))} {vs : List V}, ErrsAt H ss vs → ErrsAt H' ss vs
  | _, _, .nil => .nil
  | _, _, .cons h t => .cons (h.same k) (ErrsAt.same k t)
theorem ErrsAt.get {H : Hp} : ∀ {ss : List (Addr × Option (Str × V))} {vs : List V} {i : Nat} {v : V}, ErrsAt H ss vs → vs[i]? = some v → ∃ s, ss[i]? = some s ∧ ErrAt H s v
  | _, _, i, _, .nil, e => by simp at e
  | s :: _, _, 0, _, .cons h _, e => by
    cases e
    exact ⟨s, rfl, h⟩
  | _ :: ss, _, i + 1, _, .cons _ t, e => ErrsAt.get (i := i) t e
theorem ErrsAt.length {H : Hp} : ∀ {ss : List (Addr × Option (Str × V))} {vs : List V}, ErrsAt H ss vs → vs.length = ss.length
  | _, _, .nil => rfl
  | _, _, .cons _ t => by rw [List.length_cons, List.length_cons, ErrsAt.length t]
theorem ErrsAt.take {H : Hp} : ∀ {ss : List (Addr × Option (Str × V))} {vs : List V} (i : Nat), ErrsAt H ss vs → ErrsAt H (ss.take i) (vs.take i)
  | _, _, 0, _ => .nil
  | _, _, _ + 1, .nil => .nil
  | _, _, i + 1, .cons h t => .cons h (ErrsAt.take i t)
theorem err_new {H : Hp} {e d C : Addr} {f : Str} {x : V} (ne : H e = none) (nd : H d = none) (n : d ≠ e) : Same H (upd (upd H d (.xd [(f, x)])) e (exv e (.ref C) (some d))) ∧ ErrAt (upd (upd H d (.xd [(f, x)])) e (exv e (.ref C) (some d))) (C, some (f, x)) (.ref e) := by
  refine ⟨(same_new nd).trans (same_new (by rw [upd_ne (Ne.symm n)]; exact ne)), e, rfl, d, upd_same, ?_⟩
  rw [upd_ne n, upd_same]
theorem err_new0 {H : Hp} {e C : Addr} (ne : H e = none) : Same H (upd H e (exv e (.ref C) none)) ∧ ErrAt (upd H e (exv e (.ref C) none)) (C, none) (.ref e) := ⟨same_new ne, e, rfl, upd_same⟩
/-- what isinstance is asked -/
theorem ErrAt.ask {H : Hp} {s : Addr × Option (Str × V)} {v : V} (h : ErrAt H s v) : ∃ a d, v = .ref a ∧ H a = some (exv a (.ref s.1) d) ∧ ∀ dd, d = some dd → ∃ fs, H dd = some (.xd fs) := by
  obtain ⟨a, e, h⟩ := h
  obtain ⟨C, o⟩ := s
  cases o with
  | none => exact ⟨a, none, e, h, fun dd z => nomatch z⟩
  | some p =>
    obtain ⟨d, h1, h2⟩ := h
    exact ⟨a, some d, e, h1, fun dd z => by cases z; exact ⟨_, h2⟩⟩
def kindsOk (K : PySem.W.Frag) (cs : List Addr) : Bool := (List.range cs.length).all fun j => (List.range cs.length).all fun i => decide (PySem.W.kitOne K (.ref (cs.getD j 0)) (.ref (cs.getD i 0)) = some (decide (j = i)))
theorem kinds_at {K : PySem.W.Frag} {cs : List Addr} (h : kindsOk K cs = true) {j i : Nat} (hj : j < cs.length) (hi : i < cs.length) : PySem.W.kitOne K (.ref (cs.getD j 0)) (.ref (cs.getD i 0)) = some (decide (j = i)) :=
  of_decide_eq_true (List.all_eq_true.mp (List.all_eq_true.mp h j (List.mem_range.mpr hj)) i (List.mem_range.mpr hi))
def baseOk (K : PySem.W.Frag) (c : Value) (b : Bool) (cs : List Addr) : Bool := cs.all fun C => decide (PySem.W.kitOne K (.ref C) c = some b)
theorem base_at {K : PySem.W.Frag} {c : Value} {b : Bool} {cs : List Addr} (h : baseOk K c b cs = true) {C : Addr} (m : C ∈ cs) : PySem.W.kitOne K (.ref C) c = some b := of_decide_eq_true (List.all_eq_true.mp h C m)
def askOk (K : PySem.W.Frag) (D : Addr) : Bool := decide (PySem.W.findIn K (.ref D) "__getattribute__" = some (some (.builtin "BaseException.__getattribute__"))) && (decide (PySem.W.findIn K (.ref D) "__getattr__" = some none) && (decide (PySem.W.subIn K (.ref D) (.type "BaseException") = some true) && (PySem.W.hasDictIn K D &&
  (decide (PySem.W.findIn K (.ref D) "__class__" = some (some (.builtin "object.__class__"))) && (decide (PySem.W.specialIn K (.builtin "object.__class__") "__get__" = some (some (.builtin "getset_descriptor.__get__"))) && (decide (PySem.W.takesIn K (.builtin "object.__class__") = some true) && decide (PySem.W.mroIn K D (.type "object") = some true)))))))
theorem ask_at {K : PySem.W.Frag} {cs : List Addr} (h : cs.all (askOk K) = true) {D : Addr} (m : D ∈ cs) : ExcC K D := by
  have z := List.all_eq_true.mp h D m
  unfold askOk at z
  simp only [Bool.and_eq_true, decide_eq_true_eq] at z
  obtain ⟨a, b, c, d, e, f, g, i⟩ := z
  exact ⟨a, b, c, d, e, f, g, i⟩
def kd (j : Nat) : List Bool := (List.range 13).map fun i => decide (j = i)
structure E13 (P : Program) (K : PySem.W.Frag) (mg : Str → Option Value) (CJ C0 C1 C2 C3 C4 C5 C6 C7 C8 C9 C10 C11 C12 f0 f1 f2 f3 f4 f5 f6 f7 f8 f9 f10 : Addr) : Prop where
  T0 : ErrTxt P K mg "BadField" "value" C0 f0
  g0 : mg "BadField" = some (.ref C0)
  T1 : ErrTxt P K mg "BadRegisters" "value" C1 f1
  g1 : mg "BadRegisters" = some (.ref C1)
  T2 : ErrTxt P K mg "BadProgram" "value" C2 f2
  g2 : mg "BadProgram" = some (.ref C2)
  T3 : ErrTxt P K mg "BadInputs" "value" C3 f3
  g3 : mg "BadInputs" = some (.ref C3)
  T4 : ErrTxt P K mg "BadMoment" "moment" C4 f4
  g4 : mg "BadMoment" = some (.ref C4)
  T5 : ErrTxt P K mg "BadRegister" "x" C5 f5
  g5 : mg "BadRegister" = some (.ref C5)
  T6 : ErrTxt P K mg "BadState" "state" C6 f6
  g6 : mg "BadState" = some (.ref C6)
  T7 : ErrTxt P K mg "BadText" "line" C7 f7
  g7 : mg "BadText" = some (.ref C7)
  T8 : ErrTxt P K mg "BadCommand" "command" C8 f8
  g8 : mg "BadCommand" = some (.ref C8)
  T9 : ErrTxt P K mg "TooLong" "size" C9 f9
  g9 : mg "TooLong" = some (.ref C9)
  T10 : ErrTxt P K mg "TooDeep" "depth" C10 f10
  g10 : mg "TooDeep" = some (.ref C10)
  g11 : mg "NoStep" = some (.ref C11)
  g12 : mg "NotEnough" = some (.ref C12)
  x11 : PySem.W.excIn K C11 [.type "ValueError", .type "Exception", .type "BaseException", .type "object"] "ValueError.__new__" = true
  k11 : PySem.W.keepIn K (.ref C11) = true
  x12 : PySem.W.excIn K C12 [.type "ValueError", .type "Exception", .type "BaseException", .type "object"] "ValueError.__new__" = true
  k12 : PySem.W.keepIn K (.ref C12) = true
  gJ : mg "JournalError" = some (.ref CJ)
  mV : mg "ValueError" = none
  mL : mg "LookupError" = none
  kk : kindsOk K [C0, C1, C2, C3, C4, C5, C6, C7, C8, C9, C10, C11, C12] = true
  kJ : baseOk K (.ref CJ) true [C0, C1, C2, C3, C4, C5, C6, C7, C8, C9, C10, C11, C12] = true
  kV : baseOk K (.type "ValueError") true [C0, C1, C2, C3, C4, C5, C6, C7, C8, C9, C10, C11, C12] = true
  kL : baseOk K (.type "LookupError") false [C0, C1, C2, C3, C4, C5, C6, C7, C8, C9, C10, C11, C12] = true
  ka : ([C0, C1, C2, C3, C4, C5, C6, C7, C8, C9, C10, C11, C12]).all (askOk K) = true
section
variable {P : Program} {w : World} {K : PySem.W.Frag} {mg : Str → Option Value} {base : Heap} {CJ C0 C1 C2 C3 C4 C5 C6 C7 C8 C9 C10 C11 C12 f0 f1 f2 f3 f4 f5 f6 f7 f8 f9 f10 : Addr}
def spMade (S : V → List (Addr × Option (Str × V))) : Sp := fun vs H Q _ => ∃ x, vs = [x] ∧ ∀ H' l es, Same H H' → H l = none → H' l = some (.lst es) → ErrsAt H' (S x) es → Q (.ref l) H'
theorem ok_made (M : Bl mg) (F : At K mg "_law_made" sMade ["_law_thing"]) {k : Nat} (R : E13 P K mg CJ C0 C1 C2 C3 C4 C5 C6 C7 C8 C9 C10 C11 C12 f0 f1 f2 f3 f4 f5 f6 f7 f8 f9 f10) : Has P w K mg base (k + 1) "_law_made" ["_law_thing"] (spMade (fun x => [(C0, some ("value", x)), (C1, some ("value", x)), (C2, some ("value", x)), (C3, some ("value", x)), (C4, some ("moment", x)), (C5, some ("x", x)), (C6, some ("state", x)), (C7, some ("line", x)), (C8, some ("command", x)), (C9, some ("size", x)), (C10, some ("depth", x)), (C11, none), (C12, none)])) := by
  refine Has.by F scMade (fun vs H Q E h => ?_) (fun f cdv A out s H vs Q E hg hr h => ?_)
  · obtain ⟨_, rfl, _⟩ := h
    rfl
  obtain ⟨x, rfl, q⟩ := h
  refine ⟨_, (pss_cons (ps_set (i := 1) scMade.nd rfl (.inl rfl) (pe_lst (pa_cons (pe_newErr R.T0 hr (pa_cons (pv 0) pa_nil) (by rfl)) (pa_cons (pe_newErr R.T1 hr (pa_cons (pv 0) pa_nil) (by rfl)) (pa_cons (pe_newErr R.T2 hr (pa_cons (pv 0) pa_nil) (by rfl)) (pa_cons (pe_newErr R.T3 hr (pa_cons (pv 0) pa_nil) (by rfl)) (pa_cons (pe_newErr R.T4 hr (pa_cons (pv 0) pa_nil) (by rfl)) pa_nil)))))))
  (pss_cons (ps_set (i := 1) scMade.nd rfl (.inl rfl) (pe_op op_cat (pv 1) (pe_lst (pa_cons (pe_newErr R.T5 hr (pa_cons (pv 0) pa_nil) (by rfl)) (pa_cons (pe_newErr R.T6 hr (pa_cons (pv 0) pa_nil) (by rfl)) (pa_cons (pe_newErr R.T7 hr (pa_cons (pv 0) pa_nil) (by rfl)) (pa_cons (pe_newErr R.T8 hr (pa_cons (pv 0) pa_nil) (by rfl)) (pa_cons (pe_newErr R.T9 hr (pa_cons (pv 0) pa_nil) (by rfl)) pa_nil))))))))
  (pss_one (ps_ret (pe_op op_cat (pv 1) (pe_lst (pa_cons (pe_newErr R.T10 hr (pa_cons (pv 0) pa_nil) (by rfl)) (pa_cons (pe_newErr0 R.x11 R.g11 R.k11 (by rfl)) (pa_cons (pe_newErr0 R.x12 R.g12 R.k12 (by rfl)) pa_nil))))))))), ?_⟩
  refine ⟨_, rfl, x, rfl, fun e0 d0 ne0 nd0 nn0 => ?_⟩
  obtain ⟨s1, g1⟩ := err_new (C := C0) (f := "value") (x := x) ne0 nd0 nn0
  generalize upd (upd H d0 (.xd [("value", x)])) e0 (exv e0 (.ref C0) (some d0)) = H1 at s1 g1 ⊢
  refine ⟨_, rfl, x, rfl, fun e1 d1 ne1 nd1 nn1 => ?_⟩
  obtain ⟨s2, g2⟩ := err_new (C := C1) (f := "value") (x := x) ne1 nd1 nn1
  generalize upd (upd H1 d1 (.xd [("value", x)])) e1 (exv e1 (.ref C1) (some d1)) = H2 at s2 g2 ⊢
  refine ⟨_, rfl, x, rfl, fun e2 d2 ne2 nd2 nn2 => ?_⟩
  obtain ⟨s3, g3⟩ := err_new (C := C2) (f := "value") (x := x) ne2 nd2 nn2
  generalize upd (upd H2 d2 (.xd [("value", x)])) e2 (exv e2 (.ref C2) (some d2)) = H3 at s3 g3 ⊢
  refine ⟨_, rfl, x, rfl, fun e3 d3 ne3 nd3 nn3 => ?_⟩
  obtain ⟨s4, g4⟩ := err_new (C := C3) (f := "value") (x := x) ne3 nd3 nn3
  generalize upd (upd H3 d3 (.xd [("value", x)])) e3 (exv e3 (.ref C3) (some d3)) = H4 at s4 g4 ⊢
  refine ⟨_, rfl, x, rfl, fun e4 d4 ne4 nd4 nn4 => ?_⟩
  obtain ⟨s5, g5⟩ := err_new (C := C4) (f := "moment") (x := x) ne4 nd4 nn4
  generalize upd (upd H4 d4 (.xd [("moment", x)])) e4 (exv e4 (.ref C4) (some d4)) = H5 at s5 g5 ⊢
  refine ⟨(by show 5 ≤ sizeLine; decide), fun l6 nl6 => ?_⟩
  have s6 := same_new (o := .lst [V.ref e0, V.ref e1, V.ref e2, V.ref e3, V.ref e4]) nl6
  have m6 := upd_same (H := H5) (a := l6) (o := .lst [V.ref e0, V.ref e1, V.ref e2, V.ref e3, V.ref e4])
  generalize upd H5 l6 (.lst [V.ref e0, V.ref e1, V.ref e2, V.ref e3, V.ref e4]) = H6 at s6 m6 ⊢
  refine ⟨_, rfl, ?_⟩
  refine ⟨_, rfl, x, rfl, fun e5 d5 ne5 nd5 nn5 => ?_⟩
  obtain ⟨s7, g7⟩ := err_new (C := C5) (f := "x") (x := x) ne5 nd5 nn5
  generalize upd (upd H6 d5 (.xd [("x", x)])) e5 (exv e5 (.ref C5) (some d5)) = H7 at s7 g7 ⊢
  refine ⟨_, rfl, x, rfl, fun e6 d6 ne6 nd6 nn6 => ?_⟩
  obtain ⟨s8, g8⟩ := err_new (C := C6) (f := "state") (x := x) ne6 nd6 nn6
  generalize upd (upd H7 d6 (.xd [("state", x)])) e6 (exv e6 (.ref C6) (some d6)) = H8 at s8 g8 ⊢
  refine ⟨_, rfl, x, rfl, fun e7 d7 ne7 nd7 nn7 => ?_⟩
  obtain ⟨s9, g9⟩ := err_new (C := C7) (f := "line") (x := x) ne7 nd7 nn7
  generalize upd (upd H8 d7 (.xd [("line", x)])) e7 (exv e7 (.ref C7) (some d7)) = H9 at s9 g9 ⊢
  refine ⟨_, rfl, x, rfl, fun e8 d8 ne8 nd8 nn8 => ?_⟩
  obtain ⟨s10, g10⟩ := err_new (C := C8) (f := "command") (x := x) ne8 nd8 nn8
  generalize upd (upd H9 d8 (.xd [("command", x)])) e8 (exv e8 (.ref C8) (some d8)) = H10 at s10 g10 ⊢
  refine ⟨_, rfl, x, rfl, fun e9 d9 ne9 nd9 nn9 => ?_⟩
  obtain ⟨s11, g11⟩ := err_new (C := C9) (f := "size") (x := x) ne9 nd9 nn9
  generalize upd (upd H10 d9 (.xd [("size", x)])) e9 (exv e9 (.ref C9) (some d9)) = H11 at s11 g11 ⊢
  refine ⟨(by show 5 ≤ sizeLine; decide), fun l12 nl12 => ?_⟩
  have s12 := same_new (o := .lst [V.ref e5, V.ref e6, V.ref e7, V.ref e8, V.ref e9]) nl12
  have m12 := upd_same (H := H11) (a := l12) (o := .lst [V.ref e5, V.ref e6, V.ref e7, V.ref e8, V.ref e9])
  generalize upd H11 l12 (.lst [V.ref e5, V.ref e6, V.ref e7, V.ref e8, V.ref e9]) = H12 at s12 m12 ⊢
  refine ⟨l6, l12, _, _, rfl, rfl, (s7.trans (s8.trans (s9.trans (s10.trans (s11.trans (s12)))))) _ _ m6, m12, (by show 10 ≤ sizeLine; decide), fun l13 nl13 => ?_⟩
  have s13 := same_new (o := .lst ([V.ref e0, V.ref e1, V.ref e2, V.ref e3, V.ref e4] ++ [V.ref e5, V.ref e6, V.ref e7, V.ref e8, V.ref e9])) nl13
  have m13 := upd_same (H := H12) (a := l13) (o := .lst ([V.ref e0, V.ref e1, V.ref e2, V.ref e3, V.ref e4] ++ [V.ref e5, V.ref e6, V.ref e7, V.ref e8, V.ref e9]))
  generalize upd H12 l13 (.lst ([V.ref e0, V.ref e1, V.ref e2, V.ref e3, V.ref e4] ++ [V.ref e5, V.ref e6, V.ref e7, V.ref e8, V.ref e9])) = H13 at s13 m13 ⊢
  refine ⟨_, rfl, ?_⟩
  refine ⟨_, rfl, x, rfl, fun e10 d10 ne10 nd10 nn10 => ?_⟩
  obtain ⟨s14, g14⟩ := err_new (C := C10) (f := "depth") (x := x) ne10 nd10 nn10
  generalize upd (upd H13 d10 (.xd [("depth", x)])) e10 (exv e10 (.ref C10) (some d10)) = H14 at s14 g14 ⊢
  refine fun e11 ne11 => ?_
  obtain ⟨s15, g15⟩ := err_new0 (C := C11) ne11
  generalize upd H14 e11 (exv e11 (.ref C11) none) = H15 at s15 g15 ⊢
  refine fun e12 ne12 => ?_
  obtain ⟨s16, g16⟩ := err_new0 (C := C12) ne12
  generalize upd H15 e12 (exv e12 (.ref C12) none) = H16 at s16 g16 ⊢
  refine ⟨(by show 3 ≤ sizeLine; decide), fun l17 nl17 => ?_⟩
  have s17 := same_new (o := .lst [V.ref e10, V.ref e11, V.ref e12]) nl17
  have m17 := upd_same (H := H16) (a := l17) (o := .lst [V.ref e10, V.ref e11, V.ref e12])
  generalize upd H16 l17 (.lst [V.ref e10, V.ref e11, V.ref e12]) = H17 at s17 m17 ⊢
  refine ⟨l13, l17, _, _, rfl, rfl, (s14.trans (s15.trans (s16.trans (s17)))) _ _ m13, m17, (by show 13 ≤ sizeLine; decide), fun l18 nl18 => ?_⟩
  have s18 := same_new (o := .lst (([V.ref e0, V.ref e1, V.ref e2, V.ref e3, V.ref e4] ++ [V.ref e5, V.ref e6, V.ref e7, V.ref e8, V.ref e9]) ++ [V.ref e10, V.ref e11, V.ref e12])) nl18
  have m18 := upd_same (H := H17) (a := l18) (o := .lst (([V.ref e0, V.ref e1, V.ref e2, V.ref e3, V.ref e4] ++ [V.ref e5, V.ref e6, V.ref e7, V.ref e8, V.ref e9]) ++ [V.ref e10, V.ref e11, V.ref e12]))
  generalize upd H17 l18 (.lst (([V.ref e0, V.ref e1, V.ref e2, V.ref e3, V.ref e4] ++ [V.ref e5, V.ref e6, V.ref e7, V.ref e8, V.ref e9]) ++ [V.ref e10, V.ref e11, V.ref e12])) = H18 at s18 m18 ⊢
  have t17 : Same H17 H18 := s18
  have t16 : Same H16 H18 := s17.trans t17
  have t15 : Same H15 H18 := s16.trans t16
  have t14 : Same H14 H18 := s15.trans t15
  have t13 : Same H13 H18 := s14.trans t14
  have t12 : Same H12 H18 := s13.trans t13
  have t11 : Same H11 H18 := s12.trans t12
  have t10 : Same H10 H18 := s11.trans t11
  have t9 : Same H9 H18 := s10.trans t10
  have t8 : Same H8 H18 := s9.trans t9
  have t7 : Same H7 H18 := s8.trans t8
  have t6 : Same H6 H18 := s7.trans t7
  have t5 : Same H5 H18 := s6.trans t6
  have t4 : Same H4 H18 := s5.trans t5
  have t3 : Same H3 H18 := s4.trans t4
  have t2 : Same H2 H18 := s3.trans t3
  have t1 : Same H1 H18 := s2.trans t2
  have t0 : Same H H18 := s1.trans t1
  have fr : H l18 = none := (s1.trans (s2.trans (s3.trans (s4.trans (s5.trans (s6.trans (s7.trans (s8.trans (s9.trans (s10.trans (s11.trans (s12.trans (s13.trans (s14.trans (s15.trans (s16.trans (s17))))))))))))))))).free nl18
  exact q H18 l18 _ t0 fr m18 (.cons (g1.same t1) (.cons (g2.same t2) (.cons (g3.same t3) (.cons (g4.same t4) (.cons (g5.same t5) (.cons (g7.same t7) (.cons (g8.same t8) (.cons (g9.same t9) (.cons (g10.same t10) (.cons (g11.same t11) (.cons (g14.same t14) (.cons (g15.same t15) (.cons (g16.same t16) .nil)))))))))))))
theorem ok_named (M : Bl mg) (F : At K mg "_law_named" sNamed ["_law_held"]) {k : Nat} (R : E13 P K mg CJ C0 C1 C2 C3 C4 C5 C6 C7 C8 C9 C10 C11 C12 f0 f1 f2 f3 f4 f5 f6 f7 f8 f9 f10) : Has P w K mg base (k + 1) "_law_named" ["_law_held"] (spMade (fun x => [(C0, some ("value", x)), (C1, some ("value", x)), (C2, some ("value", x)), (C3, some ("value", x)), (C4, some ("moment", x)), (C5, some ("x", x)), (C6, some ("state", x)), (C7, some ("line", x)), (C8, some ("command", x)), (C9, some ("size", x)), (C10, some ("depth", x))])) := by
  refine Has.by F scNamed (fun vs H Q E h => ?_) (fun f cdv A out s H vs Q E hg hr h => ?_)
  · obtain ⟨_, rfl, _⟩ := h
    rfl
  obtain ⟨x, rfl, q⟩ := h
  refine ⟨_, (pss_cons (ps_set (i := 1) scNamed.nd rfl (.inl rfl) (pe_lst (pa_cons (pe_newErrK R.T0 hr (pk_cons (pv 0) pk_nil) (by rfl)) (pa_cons (pe_newErrK R.T1 hr (pk_cons (pv 0) pk_nil) (by rfl)) (pa_cons (pe_newErrK R.T2 hr (pk_cons (pv 0) pk_nil) (by rfl)) (pa_cons (pe_newErrK R.T3 hr (pk_cons (pv 0) pk_nil) (by rfl)) pa_nil))))))
  (pss_cons (ps_set (i := 1) scNamed.nd rfl (.inl rfl) (pe_op op_cat (pv 1) (pe_lst (pa_cons (pe_newErrK R.T4 hr (pk_cons (pv 0) pk_nil) (by rfl)) (pa_cons (pe_newErrK R.T5 hr (pk_cons (pv 0) pk_nil) (by rfl)) (pa_cons (pe_newErrK R.T6 hr (pk_cons (pv 0) pk_nil) (by rfl)) (pa_cons (pe_newErrK R.T7 hr (pk_cons (pv 0) pk_nil) (by rfl)) pa_nil)))))))
  (pss_one (ps_ret (pe_op op_cat (pv 1) (pe_lst (pa_cons (pe_newErrK R.T8 hr (pk_cons (pv 0) pk_nil) (by rfl)) (pa_cons (pe_newErrK R.T9 hr (pk_cons (pv 0) pk_nil) (by rfl)) (pa_cons (pe_newErrK R.T10 hr (pk_cons (pv 0) pk_nil) (by rfl)) pa_nil))))))))), ?_⟩
  refine ⟨_, rfl, x, rfl, fun e0 d0 ne0 nd0 nn0 => ?_⟩
  obtain ⟨s1, g1⟩ := err_new (C := C0) (f := "value") (x := x) ne0 nd0 nn0
  generalize upd (upd H d0 (.xd [("value", x)])) e0 (exv e0 (.ref C0) (some d0)) = H1 at s1 g1 ⊢
  refine ⟨_, rfl, x, rfl, fun e1 d1 ne1 nd1 nn1 => ?_⟩
  obtain ⟨s2, g2⟩ := err_new (C := C1) (f := "value") (x := x) ne1 nd1 nn1
  generalize upd (upd H1 d1 (.xd [("value", x)])) e1 (exv e1 (.ref C1) (some d1)) = H2 at s2 g2 ⊢
  refine ⟨_, rfl, x, rfl, fun e2 d2 ne2 nd2 nn2 => ?_⟩
  obtain ⟨s3, g3⟩ := err_new (C := C2) (f := "value") (x := x) ne2 nd2 nn2
  generalize upd (upd H2 d2 (.xd [("value", x)])) e2 (exv e2 (.ref C2) (some d2)) = H3 at s3 g3 ⊢
  refine ⟨_, rfl, x, rfl, fun e3 d3 ne3 nd3 nn3 => ?_⟩
  obtain ⟨s4, g4⟩ := err_new (C := C3) (f := "value") (x := x) ne3 nd3 nn3
  generalize upd (upd H3 d3 (.xd [("value", x)])) e3 (exv e3 (.ref C3) (some d3)) = H4 at s4 g4 ⊢
  refine ⟨(by show 4 ≤ sizeLine; decide), fun l5 nl5 => ?_⟩
  have s5 := same_new (o := .lst [V.ref e0, V.ref e1, V.ref e2, V.ref e3]) nl5
  have m5 := upd_same (H := H4) (a := l5) (o := .lst [V.ref e0, V.ref e1, V.ref e2, V.ref e3])
  generalize upd H4 l5 (.lst [V.ref e0, V.ref e1, V.ref e2, V.ref e3]) = H5 at s5 m5 ⊢
  refine ⟨_, rfl, ?_⟩
  refine ⟨_, rfl, x, rfl, fun e4 d4 ne4 nd4 nn4 => ?_⟩
  obtain ⟨s6, g6⟩ := err_new (C := C4) (f := "moment") (x := x) ne4 nd4 nn4
  generalize upd (upd H5 d4 (.xd [("moment", x)])) e4 (exv e4 (.ref C4) (some d4)) = H6 at s6 g6 ⊢
  refine ⟨_, rfl, x, rfl, fun e5 d5 ne5 nd5 nn5 => ?_⟩
  obtain ⟨s7, g7⟩ := err_new (C := C5) (f := "x") (x := x) ne5 nd5 nn5
  generalize upd (upd H6 d5 (.xd [("x", x)])) e5 (exv e5 (.ref C5) (some d5)) = H7 at s7 g7 ⊢
  refine ⟨_, rfl, x, rfl, fun e6 d6 ne6 nd6 nn6 => ?_⟩
  obtain ⟨s8, g8⟩ := err_new (C := C6) (f := "state") (x := x) ne6 nd6 nn6
  generalize upd (upd H7 d6 (.xd [("state", x)])) e6 (exv e6 (.ref C6) (some d6)) = H8 at s8 g8 ⊢
  refine ⟨_, rfl, x, rfl, fun e7 d7 ne7 nd7 nn7 => ?_⟩
  obtain ⟨s9, g9⟩ := err_new (C := C7) (f := "line") (x := x) ne7 nd7 nn7
  generalize upd (upd H8 d7 (.xd [("line", x)])) e7 (exv e7 (.ref C7) (some d7)) = H9 at s9 g9 ⊢
  refine ⟨(by show 4 ≤ sizeLine; decide), fun l10 nl10 => ?_⟩
  have s10 := same_new (o := .lst [V.ref e4, V.ref e5, V.ref e6, V.ref e7]) nl10
  have m10 := upd_same (H := H9) (a := l10) (o := .lst [V.ref e4, V.ref e5, V.ref e6, V.ref e7])
  generalize upd H9 l10 (.lst [V.ref e4, V.ref e5, V.ref e6, V.ref e7]) = H10 at s10 m10 ⊢
  refine ⟨l5, l10, _, _, rfl, rfl, (s6.trans (s7.trans (s8.trans (s9.trans (s10))))) _ _ m5, m10, (by show 8 ≤ sizeLine; decide), fun l11 nl11 => ?_⟩
  have s11 := same_new (o := .lst ([V.ref e0, V.ref e1, V.ref e2, V.ref e3] ++ [V.ref e4, V.ref e5, V.ref e6, V.ref e7])) nl11
  have m11 := upd_same (H := H10) (a := l11) (o := .lst ([V.ref e0, V.ref e1, V.ref e2, V.ref e3] ++ [V.ref e4, V.ref e5, V.ref e6, V.ref e7]))
  generalize upd H10 l11 (.lst ([V.ref e0, V.ref e1, V.ref e2, V.ref e3] ++ [V.ref e4, V.ref e5, V.ref e6, V.ref e7])) = H11 at s11 m11 ⊢
  refine ⟨_, rfl, ?_⟩
  refine ⟨_, rfl, x, rfl, fun e8 d8 ne8 nd8 nn8 => ?_⟩
  obtain ⟨s12, g12⟩ := err_new (C := C8) (f := "command") (x := x) ne8 nd8 nn8
  generalize upd (upd H11 d8 (.xd [("command", x)])) e8 (exv e8 (.ref C8) (some d8)) = H12 at s12 g12 ⊢
  refine ⟨_, rfl, x, rfl, fun e9 d9 ne9 nd9 nn9 => ?_⟩
  obtain ⟨s13, g13⟩ := err_new (C := C9) (f := "size") (x := x) ne9 nd9 nn9
  generalize upd (upd H12 d9 (.xd [("size", x)])) e9 (exv e9 (.ref C9) (some d9)) = H13 at s13 g13 ⊢
  refine ⟨_, rfl, x, rfl, fun e10 d10 ne10 nd10 nn10 => ?_⟩
  obtain ⟨s14, g14⟩ := err_new (C := C10) (f := "depth") (x := x) ne10 nd10 nn10
  generalize upd (upd H13 d10 (.xd [("depth", x)])) e10 (exv e10 (.ref C10) (some d10)) = H14 at s14 g14 ⊢
  refine ⟨(by show 3 ≤ sizeLine; decide), fun l15 nl15 => ?_⟩
  have s15 := same_new (o := .lst [V.ref e8, V.ref e9, V.ref e10]) nl15
  have m15 := upd_same (H := H14) (a := l15) (o := .lst [V.ref e8, V.ref e9, V.ref e10])
  generalize upd H14 l15 (.lst [V.ref e8, V.ref e9, V.ref e10]) = H15 at s15 m15 ⊢
  refine ⟨l11, l15, _, _, rfl, rfl, (s12.trans (s13.trans (s14.trans (s15)))) _ _ m11, m15, (by show 11 ≤ sizeLine; decide), fun l16 nl16 => ?_⟩
  have s16 := same_new (o := .lst (([V.ref e0, V.ref e1, V.ref e2, V.ref e3] ++ [V.ref e4, V.ref e5, V.ref e6, V.ref e7]) ++ [V.ref e8, V.ref e9, V.ref e10])) nl16
  have m16 := upd_same (H := H15) (a := l16) (o := .lst (([V.ref e0, V.ref e1, V.ref e2, V.ref e3] ++ [V.ref e4, V.ref e5, V.ref e6, V.ref e7]) ++ [V.ref e8, V.ref e9, V.ref e10]))
  generalize upd H15 l16 (.lst (([V.ref e0, V.ref e1, V.ref e2, V.ref e3] ++ [V.ref e4, V.ref e5, V.ref e6, V.ref e7]) ++ [V.ref e8, V.ref e9, V.ref e10])) = H16 at s16 m16 ⊢
  have t15 : Same H15 H16 := s16
  have t14 : Same H14 H16 := s15.trans t15
  have t13 : Same H13 H16 := s14.trans t14
  have t12 : Same H12 H16 := s13.trans t13
  have t11 : Same H11 H16 := s12.trans t12
  have t10 : Same H10 H16 := s11.trans t11
  have t9 : Same H9 H16 := s10.trans t10
  have t8 : Same H8 H16 := s9.trans t9
  have t7 : Same H7 H16 := s8.trans t8
  have t6 : Same H6 H16 := s7.trans t7
  have t5 : Same H5 H16 := s6.trans t6
  have t4 : Same H4 H16 := s5.trans t5
  have t3 : Same H3 H16 := s4.trans t4
  have t2 : Same H2 H16 := s3.trans t3
  have t1 : Same H1 H16 := s2.trans t2
  have t0 : Same H H16 := s1.trans t1
  have fr : H l16 = none := (s1.trans (s2.trans (s3.trans (s4.trans (s5.trans (s6.trans (s7.trans (s8.trans (s9.trans (s10.trans (s11.trans (s12.trans (s13.trans (s14.trans (s15))))))))))))))).free nl16
  exact q H16 l16 _ t0 fr m16 (.cons (g1.same t1) (.cons (g2.same t2) (.cons (g3.same t3) (.cons (g4.same t4) (.cons (g6.same t6) (.cons (g7.same t7) (.cons (g8.same t8) (.cons (g9.same t9) (.cons (g12.same t12) (.cons (g13.same t13) (.cons (g14.same t14) .nil)))))))))))
def spKinds (cs : List Addr) : Sp := fun vs H Q _ => ∃ (e : V) (j : Nat) (o : Option (Str × V)), vs = [e] ∧ ErrAt H (cs.getD j 0, o) e ∧ j < cs.length ∧ ∀ H' l, Same H H' → H l = none → H' l = some (.lst ((kd j).map V.bl)) → Q (.ref l) H'
theorem getD_mem {cs : List Addr} {j : Nat} (h : j < cs.length) : cs.getD j 0 ∈ cs := by
  rw [List.getD_eq_getElem?_getD, List.getElem?_eq_getElem h]
  exact List.getElem_mem h
theorem ok_kinds (M : Bl mg) (F : At K mg "_law_kinds" sKinds ["_law_one"]) {k : Nat} (R : E13 P K mg CJ C0 C1 C2 C3 C4 C5 C6 C7 C8 C9 C10 C11 C12 f0 f1 f2 f3 f4 f5 f6 f7 f8 f9 f10) : Has P w K mg base (k + 1) "_law_kinds" ["_law_one"] (spKinds [C0, C1, C2, C3, C4, C5, C6, C7, C8, C9, C10, C11, C12]) := by
  refine Has.by F scKinds (fun vs H Q E h => ?_) (fun f cdv A out s H vs Q E hg hr h => ?_)
  · obtain ⟨_, _, _, rfl, _⟩ := h
    rfl
  obtain ⟨e, j, oo, rfl, er, hj, q⟩ := h
  have xc := ask_at R.ka (getD_mem hj)
  obtain ⟨a, d, rfl, he, hd⟩ := er.ask
  have kf : ∀ i, i < 13 → PySem.W.kitOne K (.ref (([C0, C1, C2, C3, C4, C5, C6, C7, C8, C9, C10, C11, C12]).getD j 0)) (.ref (([C0, C1, C2, C3, C4, C5, C6, C7, C8, C9, C10, C11, C12]).getD i 0)) = some (decide (j = i)) := fun i hi => kinds_at R.kk hj hi
  refine ⟨_, (pss_cons (ps_set (i := 1) scKinds.nd rfl (.inl rfl) (pe_lst (pa_cons (pe_callB (call_isX (K := K) rfl) (by rfl) M.isinstance_ (by decide +kernel) (pa_cons (pv 0) (pa_cons (pe_glob (v := .ref C0) (by rfl) R.g0 rfl) pa_nil))) (pa_cons (pe_callB (call_isX (K := K) rfl) (by rfl) M.isinstance_ (by decide +kernel) (pa_cons (pv 0) (pa_cons (pe_glob (v := .ref C1) (by rfl) R.g1 rfl) pa_nil))) (pa_cons (pe_callB (call_isX (K := K) rfl) (by rfl) M.isinstance_ (by decide +kernel) (pa_cons (pv 0) (pa_cons (pe_glob (v := .ref C2) (by rfl) R.g2 rfl) pa_nil))) pa_nil)))))
  (pss_cons (ps_set (i := 1) scKinds.nd rfl (.inl rfl) (pe_op op_cat (pv 1) (pe_lst (pa_cons (pe_callB (call_isX (K := K) rfl) (by rfl) M.isinstance_ (by decide +kernel) (pa_cons (pv 0) (pa_cons (pe_glob (v := .ref C3) (by rfl) R.g3 rfl) pa_nil))) (pa_cons (pe_callB (call_isX (K := K) rfl) (by rfl) M.isinstance_ (by decide +kernel) (pa_cons (pv 0) (pa_cons (pe_glob (v := .ref C4) (by rfl) R.g4 rfl) pa_nil))) (pa_cons (pe_callB (call_isX (K := K) rfl) (by rfl) M.isinstance_ (by decide +kernel) (pa_cons (pv 0) (pa_cons (pe_glob (v := .ref C5) (by rfl) R.g5 rfl) pa_nil))) pa_nil))))))
  (pss_cons (ps_set (i := 1) scKinds.nd rfl (.inl rfl) (pe_op op_cat (pv 1) (pe_lst (pa_cons (pe_callB (call_isX (K := K) rfl) (by rfl) M.isinstance_ (by decide +kernel) (pa_cons (pv 0) (pa_cons (pe_glob (v := .ref C6) (by rfl) R.g6 rfl) pa_nil))) (pa_cons (pe_callB (call_isX (K := K) rfl) (by rfl) M.isinstance_ (by decide +kernel) (pa_cons (pv 0) (pa_cons (pe_glob (v := .ref C7) (by rfl) R.g7 rfl) pa_nil))) (pa_cons (pe_callB (call_isX (K := K) rfl) (by rfl) M.isinstance_ (by decide +kernel) (pa_cons (pv 0) (pa_cons (pe_glob (v := .ref C8) (by rfl) R.g8 rfl) pa_nil))) pa_nil))))))
  (pss_cons (ps_set (i := 1) scKinds.nd rfl (.inl rfl) (pe_op op_cat (pv 1) (pe_lst (pa_cons (pe_callB (call_isX (K := K) rfl) (by rfl) M.isinstance_ (by decide +kernel) (pa_cons (pv 0) (pa_cons (pe_glob (v := .ref C9) (by rfl) R.g9 rfl) pa_nil))) (pa_cons (pe_callB (call_isX (K := K) rfl) (by rfl) M.isinstance_ (by decide +kernel) (pa_cons (pv 0) (pa_cons (pe_glob (v := .ref C10) (by rfl) R.g10 rfl) pa_nil))) (pa_cons (pe_callB (call_isX (K := K) rfl) (by rfl) M.isinstance_ (by decide +kernel) (pa_cons (pv 0) (pa_cons (pe_glob (v := .ref C11) (by rfl) R.g11 rfl) pa_nil))) pa_nil))))))
  (pss_one (ps_ret (pe_op op_cat (pv 1) (pe_lst (pa_cons (pe_callB (call_isX (K := K) rfl) (by rfl) M.isinstance_ (by decide +kernel) (pa_cons (pv 0) (pa_cons (pe_glob (v := .ref C12) (by rfl) R.g12 rfl) pa_nil))) pa_nil))))))))), ?_⟩
  have t0 : Same H H := Same.refl H
  refine ⟨_, rfl, a, _, d, _, _, _, rfl, t0 _ _ he, (fun dd z => by obtain ⟨fs, y⟩ := hd dd z; exact ⟨fs, t0 _ _ y⟩), xc, .own C0, kf 0 (by decide), ?_⟩
  refine ⟨_, rfl, a, _, d, _, _, _, rfl, t0 _ _ he, (fun dd z => by obtain ⟨fs, y⟩ := hd dd z; exact ⟨fs, t0 _ _ y⟩), xc, .own C1, kf 1 (by decide), ?_⟩
  refine ⟨_, rfl, a, _, d, _, _, _, rfl, t0 _ _ he, (fun dd z => by obtain ⟨fs, y⟩ := hd dd z; exact ⟨fs, t0 _ _ y⟩), xc, .own C2, kf 2 (by decide), ?_⟩
  refine ⟨(by show 3 ≤ sizeLine; decide), fun l1 nl1 => ?_⟩
  have s1 := same_new (o := .lst [V.bl (decide (j = 0)), V.bl (decide (j = 1)), V.bl (decide (j = 2))]) nl1
  have m1 := upd_same (H := H) (a := l1) (o := .lst [V.bl (decide (j = 0)), V.bl (decide (j = 1)), V.bl (decide (j = 2))])
  generalize upd H l1 (.lst [V.bl (decide (j = 0)), V.bl (decide (j = 1)), V.bl (decide (j = 2))]) = H1 at s1 m1 ⊢
  have t1 := t0.trans s1
  refine ⟨_, rfl, ?_⟩
  refine ⟨_, rfl, a, _, d, _, _, _, rfl, t1 _ _ he, (fun dd z => by obtain ⟨fs, y⟩ := hd dd z; exact ⟨fs, t1 _ _ y⟩), xc, .own C3, kf 3 (by decide), ?_⟩
  refine ⟨_, rfl, a, _, d, _, _, _, rfl, t1 _ _ he, (fun dd z => by obtain ⟨fs, y⟩ := hd dd z; exact ⟨fs, t1 _ _ y⟩), xc, .own C4, kf 4 (by decide), ?_⟩
  refine ⟨_, rfl, a, _, d, _, _, _, rfl, t1 _ _ he, (fun dd z => by obtain ⟨fs, y⟩ := hd dd z; exact ⟨fs, t1 _ _ y⟩), xc, .own C5, kf 5 (by decide), ?_⟩
  refine ⟨(by show 3 ≤ sizeLine; decide), fun l2 nl2 => ?_⟩
  have s2 := same_new (o := .lst [V.bl (decide (j = 3)), V.bl (decide (j = 4)), V.bl (decide (j = 5))]) nl2
  have m2 := upd_same (H := H1) (a := l2) (o := .lst [V.bl (decide (j = 3)), V.bl (decide (j = 4)), V.bl (decide (j = 5))])
  generalize upd H1 l2 (.lst [V.bl (decide (j = 3)), V.bl (decide (j = 4)), V.bl (decide (j = 5))]) = H2 at s2 m2 ⊢
  have t2 := t1.trans s2
  refine ⟨l1, l2, _, _, rfl, rfl, s2 _ _ m1, m2, (by show 6 ≤ sizeLine; decide), fun l3 nl3 => ?_⟩
  have s3 := same_new (o := .lst ([V.bl (decide (j = 0)), V.bl (decide (j = 1)), V.bl (decide (j = 2))] ++ [V.bl (decide (j = 3)), V.bl (decide (j = 4)), V.bl (decide (j = 5))])) nl3
  have m3 := upd_same (H := H2) (a := l3) (o := .lst ([V.bl (decide (j = 0)), V.bl (decide (j = 1)), V.bl (decide (j = 2))] ++ [V.bl (decide (j = 3)), V.bl (decide (j = 4)), V.bl (decide (j = 5))]))
  have f1003 := t2.free nl3
  generalize upd H2 l3 (.lst ([V.bl (decide (j = 0)), V.bl (decide (j = 1)), V.bl (decide (j = 2))] ++ [V.bl (decide (j = 3)), V.bl (decide (j = 4)), V.bl (decide (j = 5))])) = H3 at s3 m3 ⊢
  have t3 := t2.trans s3
  refine ⟨_, rfl, ?_⟩
  refine ⟨_, rfl, a, _, d, _, _, _, rfl, t3 _ _ he, (fun dd z => by obtain ⟨fs, y⟩ := hd dd z; exact ⟨fs, t3 _ _ y⟩), xc, .own C6, kf 6 (by decide), ?_⟩
  refine ⟨_, rfl, a, _, d, _, _, _, rfl, t3 _ _ he, (fun dd z => by obtain ⟨fs, y⟩ := hd dd z; exact ⟨fs, t3 _ _ y⟩), xc, .own C7, kf 7 (by decide), ?_⟩
  refine ⟨_, rfl, a, _, d, _, _, _, rfl, t3 _ _ he, (fun dd z => by obtain ⟨fs, y⟩ := hd dd z; exact ⟨fs, t3 _ _ y⟩), xc, .own C8, kf 8 (by decide), ?_⟩
  refine ⟨(by show 3 ≤ sizeLine; decide), fun l4 nl4 => ?_⟩
  have s4 := same_new (o := .lst [V.bl (decide (j = 6)), V.bl (decide (j = 7)), V.bl (decide (j = 8))]) nl4
  have m4 := upd_same (H := H3) (a := l4) (o := .lst [V.bl (decide (j = 6)), V.bl (decide (j = 7)), V.bl (decide (j = 8))])
  generalize upd H3 l4 (.lst [V.bl (decide (j = 6)), V.bl (decide (j = 7)), V.bl (decide (j = 8))]) = H4 at s4 m4 ⊢
  have t4 := t3.trans s4
  refine ⟨l3, l4, _, _, rfl, rfl, s4 _ _ m3, m4, (by show 9 ≤ sizeLine; decide), fun l5 nl5 => ?_⟩
  have s5 := same_new (o := .lst (([V.bl (decide (j = 0)), V.bl (decide (j = 1)), V.bl (decide (j = 2))] ++ [V.bl (decide (j = 3)), V.bl (decide (j = 4)), V.bl (decide (j = 5))]) ++ [V.bl (decide (j = 6)), V.bl (decide (j = 7)), V.bl (decide (j = 8))])) nl5
  have m5 := upd_same (H := H4) (a := l5) (o := .lst (([V.bl (decide (j = 0)), V.bl (decide (j = 1)), V.bl (decide (j = 2))] ++ [V.bl (decide (j = 3)), V.bl (decide (j = 4)), V.bl (decide (j = 5))]) ++ [V.bl (decide (j = 6)), V.bl (decide (j = 7)), V.bl (decide (j = 8))]))
  have f1005 := t4.free nl5
  generalize upd H4 l5 (.lst (([V.bl (decide (j = 0)), V.bl (decide (j = 1)), V.bl (decide (j = 2))] ++ [V.bl (decide (j = 3)), V.bl (decide (j = 4)), V.bl (decide (j = 5))]) ++ [V.bl (decide (j = 6)), V.bl (decide (j = 7)), V.bl (decide (j = 8))])) = H5 at s5 m5 ⊢
  have t5 := t4.trans s5
  refine ⟨_, rfl, ?_⟩
  refine ⟨_, rfl, a, _, d, _, _, _, rfl, t5 _ _ he, (fun dd z => by obtain ⟨fs, y⟩ := hd dd z; exact ⟨fs, t5 _ _ y⟩), xc, .own C9, kf 9 (by decide), ?_⟩
  refine ⟨_, rfl, a, _, d, _, _, _, rfl, t5 _ _ he, (fun dd z => by obtain ⟨fs, y⟩ := hd dd z; exact ⟨fs, t5 _ _ y⟩), xc, .own C10, kf 10 (by decide), ?_⟩
  refine ⟨_, rfl, a, _, d, _, _, _, rfl, t5 _ _ he, (fun dd z => by obtain ⟨fs, y⟩ := hd dd z; exact ⟨fs, t5 _ _ y⟩), xc, .own C11, kf 11 (by decide), ?_⟩
  refine ⟨(by show 3 ≤ sizeLine; decide), fun l6 nl6 => ?_⟩
  have s6 := same_new (o := .lst [V.bl (decide (j = 9)), V.bl (decide (j = 10)), V.bl (decide (j = 11))]) nl6
  have m6 := upd_same (H := H5) (a := l6) (o := .lst [V.bl (decide (j = 9)), V.bl (decide (j = 10)), V.bl (decide (j = 11))])
  generalize upd H5 l6 (.lst [V.bl (decide (j = 9)), V.bl (decide (j = 10)), V.bl (decide (j = 11))]) = H6 at s6 m6 ⊢
  have t6 := t5.trans s6
  refine ⟨l5, l6, _, _, rfl, rfl, s6 _ _ m5, m6, (by show 12 ≤ sizeLine; decide), fun l7 nl7 => ?_⟩
  have s7 := same_new (o := .lst ((([V.bl (decide (j = 0)), V.bl (decide (j = 1)), V.bl (decide (j = 2))] ++ [V.bl (decide (j = 3)), V.bl (decide (j = 4)), V.bl (decide (j = 5))]) ++ [V.bl (decide (j = 6)), V.bl (decide (j = 7)), V.bl (decide (j = 8))]) ++ [V.bl (decide (j = 9)), V.bl (decide (j = 10)), V.bl (decide (j = 11))])) nl7
  have m7 := upd_same (H := H6) (a := l7) (o := .lst ((([V.bl (decide (j = 0)), V.bl (decide (j = 1)), V.bl (decide (j = 2))] ++ [V.bl (decide (j = 3)), V.bl (decide (j = 4)), V.bl (decide (j = 5))]) ++ [V.bl (decide (j = 6)), V.bl (decide (j = 7)), V.bl (decide (j = 8))]) ++ [V.bl (decide (j = 9)), V.bl (decide (j = 10)), V.bl (decide (j = 11))]))
  have f1007 := t6.free nl7
  generalize upd H6 l7 (.lst ((([V.bl (decide (j = 0)), V.bl (decide (j = 1)), V.bl (decide (j = 2))] ++ [V.bl (decide (j = 3)), V.bl (decide (j = 4)), V.bl (decide (j = 5))]) ++ [V.bl (decide (j = 6)), V.bl (decide (j = 7)), V.bl (decide (j = 8))]) ++ [V.bl (decide (j = 9)), V.bl (decide (j = 10)), V.bl (decide (j = 11))])) = H7 at s7 m7 ⊢
  have t7 := t6.trans s7
  refine ⟨_, rfl, ?_⟩
  refine ⟨_, rfl, a, _, d, _, _, _, rfl, t7 _ _ he, (fun dd z => by obtain ⟨fs, y⟩ := hd dd z; exact ⟨fs, t7 _ _ y⟩), xc, .own C12, kf 12 (by decide), ?_⟩
  refine ⟨(by show 1 ≤ sizeLine; decide), fun l8 nl8 => ?_⟩
  have s8 := same_new (o := .lst [V.bl (decide (j = 12))]) nl8
  have m8 := upd_same (H := H7) (a := l8) (o := .lst [V.bl (decide (j = 12))])
  generalize upd H7 l8 (.lst [V.bl (decide (j = 12))]) = H8 at s8 m8 ⊢
  have t8 := t7.trans s8
  refine ⟨l7, l8, _, _, rfl, rfl, s8 _ _ m7, m8, (by show 13 ≤ sizeLine; decide), fun l9 nl9 => ?_⟩
  have s9 := same_new (o := .lst (((([V.bl (decide (j = 0)), V.bl (decide (j = 1)), V.bl (decide (j = 2))] ++ [V.bl (decide (j = 3)), V.bl (decide (j = 4)), V.bl (decide (j = 5))]) ++ [V.bl (decide (j = 6)), V.bl (decide (j = 7)), V.bl (decide (j = 8))]) ++ [V.bl (decide (j = 9)), V.bl (decide (j = 10)), V.bl (decide (j = 11))]) ++ [V.bl (decide (j = 12))])) nl9
  have m9 := upd_same (H := H8) (a := l9) (o := .lst (((([V.bl (decide (j = 0)), V.bl (decide (j = 1)), V.bl (decide (j = 2))] ++ [V.bl (decide (j = 3)), V.bl (decide (j = 4)), V.bl (decide (j = 5))]) ++ [V.bl (decide (j = 6)), V.bl (decide (j = 7)), V.bl (decide (j = 8))]) ++ [V.bl (decide (j = 9)), V.bl (decide (j = 10)), V.bl (decide (j = 11))]) ++ [V.bl (decide (j = 12))]))
  have f1009 := t8.free nl9
  generalize upd H8 l9 (.lst (((([V.bl (decide (j = 0)), V.bl (decide (j = 1)), V.bl (decide (j = 2))] ++ [V.bl (decide (j = 3)), V.bl (decide (j = 4)), V.bl (decide (j = 5))]) ++ [V.bl (decide (j = 6)), V.bl (decide (j = 7)), V.bl (decide (j = 8))]) ++ [V.bl (decide (j = 9)), V.bl (decide (j = 10)), V.bl (decide (j = 11))]) ++ [V.bl (decide (j = 12))])) = H9 at s9 m9 ⊢
  have t9 := t8.trans s9
  exact q _ l9 t9 f1009 m9
def spVals (S : V → List (Addr × Option (Str × V))) : Sp := fun vs H Q _ => ∃ (l : Addr) (es rest : List V) (x : V), vs = [.ref l] ∧ H l = some (.lst (es ++ rest)) ∧ ErrsAt H (S x) es ∧ ∀ H' m, Same H H' → H m = none → H' m = some (.lst (List.replicate 11 x)) → Q (.ref m) H'
theorem ok_values (M : Bl mg) (F : At K mg "_law_values" sValues ["_law_some"]) {k : Nat} (R : E13 P K mg CJ C0 C1 C2 C3 C4 C5 C6 C7 C8 C9 C10 C11 C12 f0 f1 f2 f3 f4 f5 f6 f7 f8 f9 f10) : Has P w K mg base (k + 1) "_law_values" ["_law_some"] (spVals (fun x => [(C0, some ("value", x)), (C1, some ("value", x)), (C2, some ("value", x)), (C3, some ("value", x)), (C4, some ("moment", x)), (C5, some ("x", x)), (C6, some ("state", x)), (C7, some ("line", x)), (C8, some ("command", x)), (C9, some ("size", x)), (C10, some ("depth", x))])) := by
  refine Has.by F scValues (fun vs H Q E h => ?_) (fun f cdv A out s H vs Q E hg hr h => ?_)
  · obtain ⟨_, _, _, _, rfl, _⟩ := h
    rfl
  obtain ⟨l, es, rest, x, rfl, hl, er, q⟩ := h
  cases er with
  | cons k0 er =>
  cases er with
  | cons k1 er =>
  cases er with
  | cons k2 er =>
  cases er with
  | cons k3 er =>
  cases er with
  | cons k4 er =>
  cases er with
  | cons k5 er =>
  cases er with
  | cons k6 er =>
  cases er with
  | cons k7 er =>
  cases er with
  | cons k8 er =>
  cases er with
  | cons k9 er =>
  cases er with
  | cons k10 er =>
  cases er
  obtain ⟨a0, rfl, d0, he0, hd0⟩ := k0
  obtain ⟨a1, rfl, d1, he1, hd1⟩ := k1
  obtain ⟨a2, rfl, d2, he2, hd2⟩ := k2
  obtain ⟨a3, rfl, d3, he3, hd3⟩ := k3
  obtain ⟨a4, rfl, d4, he4, hd4⟩ := k4
  obtain ⟨a5, rfl, d5, he5, hd5⟩ := k5
  obtain ⟨a6, rfl, d6, he6, hd6⟩ := k6
  obtain ⟨a7, rfl, d7, he7, hd7⟩ := k7
  obtain ⟨a8, rfl, d8, he8, hd8⟩ := k8
  obtain ⟨a9, rfl, d9, he9, hd9⟩ := k9
  obtain ⟨a10, rfl, d10, he10, hd10⟩ := k10
  refine ⟨_, (pss_cons (ps_set (i := 1) scValues.nd rfl (.inl rfl) (pe_lst (pa_cons (pe_exvF (pe_ix ix_list (pv 0) pe_int (fun _ _ => rfl))) (pa_cons (pe_exvF (pe_ix ix_list (pv 0) pe_int (fun _ _ => rfl))) (pa_cons (pe_exvF (pe_ix ix_list (pv 0) pe_int (fun _ _ => rfl))) (pa_cons (pe_exvF (pe_ix ix_list (pv 0) pe_int (fun _ _ => rfl))) (pa_cons (pe_exvF (pe_ix ix_list (pv 0) pe_int (fun _ _ => rfl))) (pa_cons (pe_exvF (pe_ix ix_list (pv 0) pe_int (fun _ _ => rfl))) (pa_cons (pe_exvF (pe_ix ix_list (pv 0) pe_int (fun _ _ => rfl))) pa_nil)))))))))
  (pss_one (ps_ret (pe_op op_cat (pv 1) (pe_lst (pa_cons (pe_exvF (pe_ix ix_list (pv 0) pe_int (fun _ _ => rfl))) (pa_cons (pe_exvF (pe_ix ix_list (pv 0) pe_int (fun _ _ => rfl))) (pa_cons (pe_exvF (pe_ix ix_list (pv 0) pe_int (fun _ _ => rfl))) (pa_cons (pe_exvF (pe_ix ix_list (pv 0) pe_int (fun _ _ => rfl))) pa_nil))))))))), ?_⟩
  refine ⟨_, rfl, l, _, 0, _, rfl, rfl, SqL.of hl, atI_nat (j := 0) rfl, a0, C0, d0, _, x, rfl, ⟨R.T0.ga, R.T0.gg, R.T0.exC, R.T0.hdC⟩, R.T0.noN, he0, hd0, (by simp [List.lookup]), ?_⟩
  refine ⟨_, rfl, l, _, 1, _, rfl, rfl, SqL.of hl, atI_nat (j := 1) rfl, a1, C1, d1, _, x, rfl, ⟨R.T1.ga, R.T1.gg, R.T1.exC, R.T1.hdC⟩, R.T1.noN, he1, hd1, (by simp [List.lookup]), ?_⟩
  refine ⟨_, rfl, l, _, 2, _, rfl, rfl, SqL.of hl, atI_nat (j := 2) rfl, a2, C2, d2, _, x, rfl, ⟨R.T2.ga, R.T2.gg, R.T2.exC, R.T2.hdC⟩, R.T2.noN, he2, hd2, (by simp [List.lookup]), ?_⟩
  refine ⟨_, rfl, l, _, 3, _, rfl, rfl, SqL.of hl, atI_nat (j := 3) rfl, a3, C3, d3, _, x, rfl, ⟨R.T3.ga, R.T3.gg, R.T3.exC, R.T3.hdC⟩, R.T3.noN, he3, hd3, (by simp [List.lookup]), ?_⟩
  refine ⟨_, rfl, l, _, 4, _, rfl, rfl, SqL.of hl, atI_nat (j := 4) rfl, a4, C4, d4, _, x, rfl, ⟨R.T4.ga, R.T4.gg, R.T4.exC, R.T4.hdC⟩, R.T4.noN, he4, hd4, (by simp [List.lookup]), ?_⟩
  refine ⟨_, rfl, l, _, 5, _, rfl, rfl, SqL.of hl, atI_nat (j := 5) rfl, a5, C5, d5, _, x, rfl, ⟨R.T5.ga, R.T5.gg, R.T5.exC, R.T5.hdC⟩, R.T5.noN, he5, hd5, (by simp [List.lookup]), ?_⟩
  refine ⟨_, rfl, l, _, 6, _, rfl, rfl, SqL.of hl, atI_nat (j := 6) rfl, a6, C6, d6, _, x, rfl, ⟨R.T6.ga, R.T6.gg, R.T6.exC, R.T6.hdC⟩, R.T6.noN, he6, hd6, (by simp [List.lookup]), ?_⟩
  refine ⟨(by show 7 ≤ sizeLine; decide), fun l1 nl1 => ?_⟩
  have s1 := same_new (o := .lst [x, x, x, x, x, x, x]) nl1
  have m1 := upd_same (H := H) (a := l1) (o := .lst [x, x, x, x, x, x, x])
  generalize upd H l1 (.lst [x, x, x, x, x, x, x]) = H1 at s1 m1 ⊢
  refine ⟨_, rfl, ?_⟩
  refine ⟨_, rfl, l, _, 7, _, rfl, rfl, SqL.of (s1 _ _ hl), atI_nat (j := 7) rfl, a7, C7, d7, _, x, rfl, ⟨R.T7.ga, R.T7.gg, R.T7.exC, R.T7.hdC⟩, R.T7.noN, (s1 _ _ he7), (s1 _ _ hd7), (by simp [List.lookup]), ?_⟩
  refine ⟨_, rfl, l, _, 8, _, rfl, rfl, SqL.of (s1 _ _ hl), atI_nat (j := 8) rfl, a8, C8, d8, _, x, rfl, ⟨R.T8.ga, R.T8.gg, R.T8.exC, R.T8.hdC⟩, R.T8.noN, (s1 _ _ he8), (s1 _ _ hd8), (by simp [List.lookup]), ?_⟩
  refine ⟨_, rfl, l, _, 9, _, rfl, rfl, SqL.of (s1 _ _ hl), atI_nat (j := 9) rfl, a9, C9, d9, _, x, rfl, ⟨R.T9.ga, R.T9.gg, R.T9.exC, R.T9.hdC⟩, R.T9.noN, (s1 _ _ he9), (s1 _ _ hd9), (by simp [List.lookup]), ?_⟩
  refine ⟨_, rfl, l, _, 10, _, rfl, rfl, SqL.of (s1 _ _ hl), atI_nat (j := 10) rfl, a10, C10, d10, _, x, rfl, ⟨R.T10.ga, R.T10.gg, R.T10.exC, R.T10.hdC⟩, R.T10.noN, (s1 _ _ he10), (s1 _ _ hd10), (by simp [List.lookup]), ?_⟩
  refine ⟨(by show 4 ≤ sizeLine; decide), fun l2 nl2 => ?_⟩
  have s2 := same_new (o := .lst [x, x, x, x]) nl2
  have m2 := upd_same (H := H1) (a := l2) (o := .lst [x, x, x, x])
  generalize upd H1 l2 (.lst [x, x, x, x]) = H2 at s2 m2 ⊢
  refine ⟨l1, l2, _, _, rfl, rfl, s2 _ _ m1, m2, (by show 11 ≤ sizeLine; decide), fun l3 nl3 => ?_⟩
  exact q _ l3 ((s1.trans s2).trans (same_new nl3)) ((s1.trans s2).free nl3) upd_same
end
end K15
set_option Elab.async false
set_option linter.all false
set_option maxRecDepth 100000
set_option pp.maxSteps 500
set_option pp.deepTerms.threshold 8
set_option pp.deepTerms false
namespace K15
open PySem PySem.Spec PyProof.Rows L2 Lj
section
variable {P : Program} {w : World} {K : PySem.W.Frag} {mg : Str → Option Value} {base : Heap} {CJ C0 C1 C2 C3 C4 C5 C6 C7 C8 C9 C10 C11 C12 f0 f1 f2 f3 f4 f5 f6 f7 f8 f9 f10 : Addr}
theorem dp_bls {H : Hp} : ∀ bs : List Bool, DpAll K H (bs.map V.bl) (bs.map PyData.bool)
  | [] => .nil
  | b :: bs => .cons (.bl b) (dp_bls bs)
theorem lay_bls : ∀ bs : List Bool, PyData.canLayAll0 (bs.map PyData.bool) = true
  | [] => by rw [List.map_nil, PyData.canLayAll0]
  | b :: bs => by rw [List.map_cons, PyData.canLayAll0, PyData.canLay0, lay_bls bs]; rfl
theorem depth_bls : ∀ bs : List Bool, PyData.depthAll (bs.map PyData.bool) = 0
  | [] => by rw [List.map_nil, PyData.depthAll]
  | b :: bs => by rw [List.map_cons, PyData.depthAll, PyData.depth, depth_bls bs]; rfl
def kdD (j : Nat) : PyData := .list ((kd j).map PyData.bool)
theorem kd_shaped (j : Nat) : SeqAt.shaped (kdD j) = true := by
  unfold SeqAt.shaped kdD
  rw [PyData.canLay0, lay_bls, PyData.depth, depth_bls]
  rfl
def kdsD : List Nat → List PyData
  | [] => []
  | j :: js => kdD j :: kdsD js
theorem kds_lay : ∀ js : List Nat, PyData.canLayAll0 (kdsD js) = true
  | [] => by rw [kdsD, PyData.canLayAll0]
  | j :: js => by rw [kdsD, PyData.canLayAll0, kds_lay js, kdD, PyData.canLay0, lay_bls]; rfl
theorem kds_deep : ∀ js : List Nat, PyData.depthAll (kdsD js) ≤ 1
  | [] => by rw [kdsD, PyData.depthAll]; decide
  | j :: js => by
    have := kds_deep js
    rw [kdsD, PyData.depthAll, kdD, PyData.depth, depth_bls]
    omega
theorem kds_shaped (js : List Nat) : SeqAt.shaped (.list (kdsD js)) = true := by
  unfold SeqAt.shaped
  rw [PyData.canLay0, kds_lay, PyData.depth, decide_eq_true (by have := kds_deep js; omega)]
  rfl
/-- lists of kinds in the heap, none of them at D -/
def KdsAt (D : Addr) (H : Hp) : List Nat → List V → Prop := Paired fun j v => ∃ a, v = .ref a ∧ a ≠ D ∧ H a = some (.lst ((kd j).map V.bl))
theorem KdsAt.same {D : Addr} {H H' : Hp} (k : Same H H') : ∀ {js : List Nat} {vs : List V}, KdsAt D H js vs → KdsAt D H' js vs
  | _, _, .nil => .nil
  | _, _, .cons ⟨a, e, n, h⟩ t => .cons ⟨a, e, n, k _ _ h⟩ (KdsAt.same k t)
theorem KdsAt.upd {D : Addr} {H : Hp} {o : HO} : ∀ {js : List Nat} {vs : List V}, KdsAt D H js vs → KdsAt D (upd H D o) js vs
  | _, _, .nil => .nil
  | _, _, .cons ⟨a, e, n, h⟩ t => .cons ⟨a, e, n, by rw [upd_ne n]; exact h⟩ (KdsAt.upd t)
theorem KdsAt.snoc {D : Addr} {H : Hp} {j : Nat} {v : V} (a : ∃ a, v = .ref a ∧ a ≠ D ∧ H a = some (.lst ((kd j).map V.bl))) : ∀ {js : List Nat} {vs : List V}, KdsAt D H js vs → KdsAt D H (js ++ [j]) (vs ++ [v])
  | _, _, .nil => .cons a .nil
  | _, _, .cons h t => .cons h (KdsAt.snoc a t)
theorem KdsAt.dp {D : Addr} {H : Hp} : ∀ {js : List Nat} {vs : List V}, KdsAt D H js vs → DpAll K H vs (kdsD js)
  | _, _, .nil => .nil
  | _, _, .cons ⟨a, e, _, h⟩ t => by
    subst e
    exact .cons (.lst (SqL.of h) (dp_bls _)) (KdsAt.dp t)
theorem KdsAt.length {D : Addr} {H : Hp} : ∀ {js : List Nat} {vs : List V}, KdsAt D H js vs → vs.length = js.length
  | _, _, .nil => rfl
  | _, _, .cons _ t => by rw [List.length_cons, List.length_cons, KdsAt.length t]
theorem cut_toL (xs : List V) (i : Nat) : cutV xs none (some (i : Int)) = xs.take i := by
  unfold cutV
  rw [HT.sIx_none, HT.sIx_nat, List.drop_zero, Nat.sub_zero]
  by_cases h : i ≤ xs.length
  · rw [Nat.min_eq_left h]
  · rw [Nat.min_eq_right (by omega), List.take_length, List.take_of_length_le (by omega)]
theorem spec_at {x : V} {cs : List Addr} {S : List (Addr × Option (Str × V))} (h : S.map Prod.fst = cs) {i : Nat} {s : Addr × Option (Str × V)} (e : S[i]? = some s) : s.1 = cs.getD i 0 ∧ i < cs.length := by
  have z : cs[i]? = some s.1 := by rw [← h, List.getElem?_map, e]; rfl
  refine ⟨?_, (List.getElem?_eq_some_iff.mp z).1⟩
  rw [List.getD_eq_getElem?_getD, z]
  rfl
/-- eleven times the same, shown -/
theorem rep_show {d : PyData} (h1 : d.showable = true) (h2 : d.depth ≤ 10) (h3 : d.shown.length ≤ 3000) : ∀ n : Nat, PyData.showableAll (List.replicate n d) = true ∧ PyData.depthAll (List.replicate n d) ≤ 10 ∧ ((PyData.shownAll (List.replicate n d)).map (·.length)).sum ≤ 3000 * n ∧ (PyData.shownAll (List.replicate n d)).length = n
  | 0 => ⟨by rw [List.replicate_zero, PyData.showableAll], by rw [List.replicate_zero, PyData.depthAll]; decide, by rw [List.replicate_zero, PyData.shownAll]; decide, by rw [List.replicate_zero, PyData.shownAll]; rfl⟩
  | n + 1 => by
    obtain ⟨a, b, c, e⟩ := rep_show h1 h2 h3 n
    refine ⟨by rw [List.replicate_succ, PyData.showableAll, h1, a]; rfl, by rw [List.replicate_succ, PyData.depthAll]; omega, ?_, by rw [List.replicate_succ, PyData.shownAll, List.length_cons, e]⟩
    rw [List.replicate_succ, PyData.shownAll, List.map_cons, List.sum_cons]
    omega
theorem rep11 {d : PyData} (h1 : d.showable = true) (h2 : d.depth ≤ 10) (h3 : d.shown.length ≤ 3000) : (PyData.list (List.replicate 11 d)).showable = true ∧ (PyData.list (List.replicate 11 d)).depth ≤ 64 ∧ (PyData.list (List.replicate 11 d)).shown.length ≤ sizeLine := by
  obtain ⟨a, b, c, e⟩ := rep_show h1 h2 h3 11
  refine ⟨by rw [PyData.showable]; exact a, by rw [PyData.depth]; omega, ?_⟩
  rw [PyData.shown, sizeLine_eq]
  have := PySem.listText_len_le (PyData.shownAll (List.replicate 11 d))
  omega
theorem dd_rep {H : Hp} {x : V} {d : PyData} (h : Dd K H x d) : ∀ n : Nat, DdAll K H (List.replicate n x) (List.replicate n d)
  | 0 => .nil
  | n + 1 => .cons h (dd_rep h n)
def spRight (K : PySem.W.Frag) : Sp := fun vs H Q _ => ∃ (x : V) (d : PyData), vs = [x] ∧ Dd K H x d ∧ d.showable = true ∧ d.depth ≤ 10 ∧ d.shown.length ≤ 3000 ∧ ∀ H', Same H H' → Q (.bl true) H'
set_option maxHeartbeats 4000000 in
theorem ok_right (M : Bl mg) (F : At K mg "_law_right" sRight ["_law_held"]) {k : Nat} (R : E13 P K mg CJ C0 C1 C2 C3 C4 C5 C6 C7 C8 C9 C10 C11 C12 f0 f1 f2 f3 f4 f5 f6 f7 f8 f9 f10)
    (h1 : Has P w K mg base k "_law_made" ["_law_thing"] (spMade (fun x => [(C0, some ("value", x)), (C1, some ("value", x)), (C2, some ("value", x)), (C3, some ("value", x)), (C4, some ("moment", x)), (C5, some ("x", x)), (C6, some ("state", x)), (C7, some ("line", x)), (C8, some ("command", x)), (C9, some ("size", x)), (C10, some ("depth", x)), (C11, none), (C12, none)]))) (h2 : Has P w K mg base k "_law_named" ["_law_held"] (spMade (fun x => [(C0, some ("value", x)), (C1, some ("value", x)), (C2, some ("value", x)), (C3, some ("value", x)), (C4, some ("moment", x)), (C5, some ("x", x)), (C6, some ("state", x)), (C7, some ("line", x)), (C8, some ("command", x)), (C9, some ("size", x)), (C10, some ("depth", x))]))) (h3 : Has P w K mg base k "_law_kinds" ["_law_one"] (spKinds [C0, C1, C2, C3, C4, C5, C6, C7, C8, C9, C10, C11, C12])) (h4 : Has P w K mg base k "_law_values" ["_law_some"] (spVals (fun x => [(C0, some ("value", x)), (C1, some ("value", x)), (C2, some ("value", x)), (C3, some ("value", x)), (C4, some ("moment", x)), (C5, some ("x", x)), (C6, some ("state", x)), (C7, some ("line", x)), (C8, some ("command", x)), (C9, some ("size", x)), (C10, some ("depth", x))]))) :
    Has P w K mg base (k + 1) "_law_right" ["_law_held"] (spRight K) := by
  obtain ⟨_, _, cMade⟩ := h1
  obtain ⟨_, _, cNamed⟩ := h2
  obtain ⟨_, _, cKinds⟩ := h3
  obtain ⟨_, _, cValues⟩ := h4
  refine Has.by F scRight (fun vs H Q E h => ?_) (fun f cdv A out s H vs Q E hg hr h => ?_)
  · obtain ⟨_, _, rfl, _⟩ := h
    rfl
  obtain ⟨x, dx, rfl, dd, w1, w2, w3, q⟩ := h
  refine ⟨_, (pss_cons (ps_set (i := 1) scRight.nd rfl (.inl rfl) (pe_cal cMade hg hr (by rfl) (pa_cons (pv 0) pa_nil)))
  (pss_cons (ps_for PassesOwn.never rfl (pi_enum (by rfl) M.enumerate_ (pa_cons (pv 1) pa_nil)) (pg_tup rfl (pgs_cons (pg_name (i := 2) scRight.nd rfl (.inr rfl)) (pgs_cons (pg_name (i := 3) scRight.nd rfl (.inl rfl)) pgs_nil)))
    (pss_cons (ps_if (pt_cmpR (op_neD hr.units) (pe_cal cKinds hg hr (by rfl) (pa_cons (pv 3) pa_nil)) (pe_lc (own := [("_law_other", 5)]) (g := gName 5) (by rfl) scRight.nd (pi_range1 (by rfl) M.range_ (pa_cons pe_int pa_nil)) (blkOk_by (own := [("_law_other", 5)]) (N := ["_law_held", "_law_some", "_law_at", "_law_one", "_law_named_here", "_law_other"]) (sc := defScope sRight) (by decide +kernel)) (fun _ _ _ _ _ => (pg_name (i := 5) scRight.nd rfl (.inl rfl))) (fun _ _ _ _ _ => pts_nil) (fun _ _ _ _ _ => (pe_cmpR op_eq (pv 2) (pv 5) (nomark _)))) (nomark _))
    (pss_one (ps_ret pe_bl))
    pss_nil)
  (pss_one (ps_if (PW.pt (pw_or (pt_not (pt_val (pe_callB (call_isX (K := K) rfl) (by rfl) M.isinstance_ (by decide +kernel) (pa_cons (pv 3) (pa_cons (pe_glob (v := .ref CJ) (by rfl) R.gJ rfl) pa_nil))))) (pw_or (pt_not (pt_val (pe_callB (call_isX (K := K) rfl) (by rfl) M.isinstance_ (by decide +kernel) (pa_cons (pv 3) (pa_cons (pe_bltn (v := .ty "ValueError") (by rfl) R.mV (by decide +kernel) rfl) pa_nil))))) (pw_or1 (pt_val (pe_callB (call_isX (K := K) rfl) (by rfl) M.isinstance_ (by decide +kernel) (pa_cons (pv 3) (pa_cons (pe_bltn (v := .ty "LookupError") (by rfl) R.mL (by decide +kernel) rfl) pa_nil))))))))
    (pss_one (ps_ret pe_bl))
    pss_nil))))
  (pss_cons (ps_set (i := 4) scRight.nd rfl (.inl rfl) (pe_cal cNamed hg hr (by rfl) (pa_cons (pv 0) pa_nil)))
  (pss_cons (ps_if (pt_cmpR (op_neD hr.units) (pe_lc (own := [("_law_one", 3)]) (g := gName 3) (by rfl) scRight.nd (pi_list (pv 4)) (blkOk_by (own := [("_law_one", 3)]) (N := ["_law_held", "_law_some", "_law_at", "_law_one", "_law_named_here", "_law_other"]) (sc := defScope sRight) (by decide +kernel)) (fun _ _ _ _ _ => (pg_name (i := 3) scRight.nd rfl (.inl rfl))) (fun _ _ _ _ _ => pts_nil) (fun _ _ _ _ _ => (pe_cal cKinds hg hr (by rfl) (pa_cons (pv 3) pa_nil)))) (pe_lc (own := [("_law_one", 3)]) (g := gName 3) (by rfl) scRight.nd (pi_list (pe_slice sl_list (pv 1) po_none (po_some pe_int))) (blkOk_by (own := [("_law_one", 3)]) (N := ["_law_held", "_law_some", "_law_at", "_law_one", "_law_named_here", "_law_other"]) (sc := defScope sRight) (by decide +kernel)) (fun _ _ _ _ _ => (pg_name (i := 3) scRight.nd rfl (.inl rfl))) (fun _ _ _ _ _ => pts_nil) (fun _ _ _ _ _ => (pe_cal cKinds hg hr (by rfl) (pa_cons (pv 3) pa_nil)))) (nomark _))
    (pss_one (ps_ret pe_bl))
    pss_nil)
  (pss_one (ps_ret (pe_and (pe_cmpR op_eq (pe_callB (call_reprA (K := K) rfl hg hr) (by rfl) M.repr_ (by decide +kernel) (pa_cons (pe_cal cValues hg hr (by rfl) (pa_cons (pv 1) pa_nil)) pa_nil)) (pe_callB (call_reprA (K := K) rfl hg hr) (by rfl) M.repr_ (by decide +kernel) (pa_cons (pe_op op_rep (pe_lst (pa_cons (pv 0) pa_nil)) pe_int) pa_nil)) (nomark _)) (pe_one (pe_cmpR op_eq (pe_callB (call_reprA (K := K) rfl hg hr) (by rfl) M.repr_ (by decide +kernel) (pa_cons (pe_cal cValues hg hr (by rfl) (pa_cons (pv 4) pa_nil)) pa_nil)) (pe_callB (call_reprA (K := K) rfl hg hr) (by rfl) M.repr_ (by decide +kernel) (pa_cons (pe_op op_rep (pe_lst (pa_cons (pv 0) pa_nil)) pe_int) pa_nil)) (nomark _)))))))))), ?_⟩
  refine ⟨_, rfl, x, rfl, fun H1 l es s1 nl h1 er => ?_⟩
  have el := er.length
  refine ⟨_, rfl, l, es, rfl, SqL.of h1, ?_⟩
  refine for_it (walk_enum (K := K) (a := l) (xs := es)) (fun i σ H' => ∃ y2 y3, σ = [some x, some (.ref l), y2, y3, none, none] ∧ Same H1 H') ⟨_, _, rfl, Same.refl _⟩ (fun i σ H' _ ⟨_, _, _, h⟩ => SqL.of (h _ _ h1)) ?_ ?_
  · rintro i y σ H2 H3 hi ⟨y2, y3, rfl, s2⟩ ⟨T, x1, x2, rfl, nT, rfl, e1, e2⟩
    cases e1
    obtain ⟨sp, hsp, ea⟩ := er.get e2
    obtain ⟨es1, hi13⟩ := spec_at (x := x) (cs := [C0, C1, C2, C3, C4, C5, C6, C7, C8, C9, C10, C11, C12]) rfl hsp
    have sT := same_new (o := .tup [V.int (i : Nat), x2]) nT
    refine ⟨T, _, rfl, SqT.of upd_same, rfl, _, _, rfl, _, _, rfl, rfl, ?_⟩
    have s3 := s2.trans sT
    generalize upd H2 T (.tup [V.int (i : Nat), x2]) = H3 at s3 ⊢
    have ea3 := ea.same s3
    obtain ⟨C, o⟩ := sp
    dsimp only at es1
    subst es1
    refine ⟨_, rfl, x2, i, o, rfl, ea3, hi13, fun H4 l4 s4 n4 h4 => ?_⟩
    refine ⟨13, rfl, by decide, by decide, fun D nD => ?_⟩
    refine lc_range (lo := 0) (n := 13) (fun j H' => H' D = some (.lst (((List.range j).map fun k => decide (i = k)).map V.bl)) ∧ Same H4 H') ⟨upd_same, same_new nD⟩ ?_ ?_
    · rintro j H5 hj ⟨g1, g2⟩
      refine ⟨rfl, ?_⟩
      refine ⟨_, rfl, _, rfl, rfl, _, g1, ?_, ?_, same_upd g2 nD⟩
      · rw [List.length_map, List.length_map, List.length_range]
        exact small1000 (by omega)
      · rw [upd_same, List.range_succ, List.map_append, List.map_append]
        have e : decide (V.int (i : Nat) = V.int (0 + (j : Nat))) = decide (i = j) := by
          rw [decide_eq_decide]
          constructor
          · intro z
            have := V.int.inj z
            omega
          · intro z
            rw [z, Int.zero_add]
        show some (HO.lst (_ ++ [V.bl (decide (V.int (i : Nat) = V.int (0 + (j : Nat))))])) = _
        rw [e]
        rfl
    rintro H5 ⟨g1, g2⟩
    refine ⟨kdD i, kdD i, .lst (SqL.of (g2 _ _ h4)) (dp_bls _), .lst (SqL.of g1) (dp_bls _), kd_shaped i, kd_shaped i, _, rfl, ?_⟩
    rw [SeqAt.eqv_refl _ (SeqAt.canLay_of_shaped (kd_shaped i))]
    refine iteF ?_
    have s35 := s4.trans g2
    obtain ⟨a, d, rfl, he, hd⟩ := (ea3.same s35).ask
    have mem := getD_mem hi13
    have xc := ask_at R.ka mem
    refine ⟨_, rfl, a, _, d, _, _, true, rfl, he, hd, xc, .own CJ, base_at R.kJ mem, _, rfl, iteF ?_⟩
    refine ⟨_, rfl, a, _, d, _, _, true, rfl, he, hd, xc, .ty _, base_at R.kV mem, _, rfl, iteF ?_⟩
    refine ⟨_, rfl, a, _, d, _, _, false, rfl, he, hd, xc, .ty _, base_at R.kL mem, _, rfl, iteF ?_⟩
    exact ⟨_, _, rfl, s3.trans s35⟩
  rintro σ H2 ⟨y2, y3, rfl, s2⟩
  have er2 := er.same s2
  have h2 := s2 _ _ h1
  have sA := s1.trans s2
  -- named
  refine ⟨_, rfl, x, rfl, fun H6 l6 es6 s6 n6 h6 er6 => ?_⟩
  have el6 := er6.length
  refine ⟨_, rfl, l6, rfl, ⟨_, SqL.of h6⟩, fun D nD => ?_⟩
  refine lc_list (xs := es6) (fun i H' => ∃ vs, H' D = some (.lst vs) ∧ KdsAt D H' (List.range i) vs ∧ Same H6 H') ⟨[], upd_same, .nil, same_new nD⟩ (fun i H' _ ⟨_, _, _, h⟩ => SqL.of (h _ _ h6)) ?_ ?_
  · rintro i y H7 hy ⟨vs, g1, g2, g3⟩
    obtain ⟨sp, hsp, ea⟩ := er6.get hy
    obtain ⟨es1, hi11⟩ := spec_at (x := x) (cs := [C0, C1, C2, C3, C4, C5, C6, C7, C8, C9, C10]) rfl hsp
    obtain ⟨C, o⟩ := sp
    dsimp only at es1
    have e13 : ([C0, C1, C2, C3, C4, C5, C6, C7, C8, C9, C10] : List Addr).getD i 0 = ([C0, C1, C2, C3, C4, C5, C6, C7, C8, C9, C10, C11, C12]).getD i 0 := by
      have hi : i < 11 := hi11
      have : i = 0 ∨ i = 1 ∨ i = 2 ∨ i = 3 ∨ i = 4 ∨ i = 5 ∨ i = 6 ∨ i = 7 ∨ i = 8 ∨ i = 9 ∨ i = 10 := by omega
      rcases this with rfl | rfl | rfl | rfl | rfl | rfl | rfl | rfl | rfl | rfl | rfl <;> rfl
    rw [e13] at es1
    subst es1
    have hi13 : i < 13 := Nat.lt_trans (show i < 11 from hi11) (by decide)
    refine ⟨rfl, ?_⟩
    refine ⟨_, rfl, y, i, o, rfl, ea.same g3, hi13, fun H8 l8 s8 n8 h8 => ?_⟩
    have vl := g2.length
    rw [List.length_range] at vl
    refine ⟨_, s8 _ _ g1, ?_, vs ++ [.ref l8], upd_same, ?_, same_upd (g3.trans s8) nD⟩
    · rw [vl]
      exact small1000 (by omega)
    · have nDl : l8 ≠ D := (ne_of_none g1 n8).symm
      rw [List.range_succ]
      refine KdsAt.snoc ⟨l8, rfl, nDl, ?_⟩ (g2.same s8).upd
      rw [upd_ne nDl]
      exact h8
  rintro H7 ⟨vs7, g71, g72, g73⟩
  rw [show es6.length = 11 from el6] at g72
  have h27 := g73 _ _ (s6 _ _ h2)
  -- of the first eleven
  refine ⟨_, rfl, 11, rfl, l, es, rfl, SqL.of h27, fun l8 nl8 => ?_⟩
  have s8 := same_new (o := .lst (cutV es none (some 11))) nl8
  have h8 := upd_same (H := H7) (a := l8) (o := .lst (cutV es none (some 11)))
  generalize upd H7 l8 (.lst (cutV es none (some 11))) = H8 at s8 h8 ⊢
  have ec : cutV es none (some 11) = es.take 11 := cut_toL es 11
  rw [ec] at h8
  have er8 := (((er2.same s6).same g73).same s8).take 11
  refine ⟨l8, rfl, ⟨_, SqL.of h8⟩, fun D2 nD2 => ?_⟩
  refine lc_list (xs := es.take 11) (fun i H' => ∃ vs, H' D2 = some (.lst vs) ∧ KdsAt D2 H' (List.range i) vs ∧ Same H8 H') ⟨[], upd_same, .nil, same_new nD2⟩ (fun i H' _ ⟨_, _, _, h⟩ => SqL.of (h _ _ h8)) ?_ ?_
  · rintro i y H9 hy ⟨vs, g1, g2, g3⟩
    obtain ⟨sp, hsp, ea⟩ := er8.get hy
    have hsp' : ([(C0, some ("value", x)), (C1, some ("value", x)), (C2, some ("value", x)), (C3, some ("value", x)), (C4, some ("moment", x)), (C5, some ("x", x)), (C6, some ("state", x)), (C7, some ("line", x)), (C8, some ("command", x)), (C9, some ("size", x)), (C10, some ("depth", x)), (C11, none), (C12, none)] : List (Addr × Option (Str × V)))[i]? = some sp := by
      have il : i < 11 := by
        have := (List.getElem?_eq_some_iff.mp hy).1
        rw [List.length_take] at this
        omega
      rw [List.getElem?_take_of_lt il] at hsp
      exact hsp
    obtain ⟨es1, hi13⟩ := spec_at (x := x) (cs := [C0, C1, C2, C3, C4, C5, C6, C7, C8, C9, C10, C11, C12]) rfl hsp'
    obtain ⟨C, o⟩ := sp
    dsimp only at es1
    subst es1
    refine ⟨rfl, ?_⟩
    refine ⟨_, rfl, y, i, o, rfl, ea.same g3, hi13, fun H10 l10 s10 n10 h10 => ?_⟩
    have vl := g2.length
    rw [List.length_range] at vl
    refine ⟨_, s10 _ _ g1, ?_, vs ++ [.ref l10], upd_same, ?_, same_upd (g3.trans s10) nD2⟩
    · rw [vl]
      have : i < 13 := hi13
      exact small1000 (by omega)
    · have nDl : l10 ≠ D2 := (ne_of_none g1 n10).symm
      rw [List.range_succ]
      refine KdsAt.snoc ⟨l10, rfl, nDl, ?_⟩ (g2.same s10).upd
      rw [upd_ne nDl]
      exact h10
  rintro H9 ⟨vs9, g91, g92, g93⟩
  have tl : (es.take 11).length = 11 := by
    rw [List.length_take, el]
    rfl
  rw [tl] at g92
  have s79 := s8.trans g93
  refine ⟨.list (kdsD (List.range 11)), .list (kdsD (List.range 11)), .lst (SqL.of (s79 _ _ g71)) (g72.same s79).dp, .lst (SqL.of g91) g92.dp, kds_shaped _, kds_shaped _, _, rfl, ?_⟩
  rw [SeqAt.eqv_refl _ (SeqAt.canLay_of_shaped (kds_shaped _))]
  refine iteF ?_
  have s29 := (s6.trans g73).trans s79
  have sB := sA.trans s29
  obtain ⟨r1, r2, r3⟩ := rep11 w1 w2 w3
  -- values
  have er9 : ErrsAt H9 ([(C0, some ("value", x)), (C1, some ("value", x)), (C2, some ("value", x)), (C3, some ("value", x)), (C4, some ("moment", x)), (C5, some ("x", x)), (C6, some ("state", x)), (C7, some ("line", x)), (C8, some ("command", x)), (C9, some ("size", x)), (C10, some ("depth", x))]) (es.take 11) := (er8.same g93)
  have h29 : H9 l = some (.lst (es.take 11 ++ es.drop 11)) := by
    rw [List.take_append_drop]
    exact s29 _ _ h2
  refine ⟨_, rfl, l, es.take 11, es.drop 11, x, rfl, h29, er9, fun H10 m10 s10 n10 h10 => ?_⟩
  have dd10 := dd.same (sB.trans s10)
  refine ⟨_, .list (List.replicate 11 dx), rfl, .lst (SqL.of h10) (dd_rep dd10 11), r1, r2, r3, ?_⟩
  refine ⟨_, rfl, (by show 1 ≤ sizeLine; decide), fun l11 nl11 => ?_⟩
  have s11 := same_new (o := .lst [x]) nl11
  have h11 := upd_same (H := H10) (a := l11) (o := .lst [x])
  generalize upd H10 l11 (.lst [x]) = H11 at s11 h11 ⊢
  refine ⟨l11, 11, [x], rfl, rfl, h11, by decide, by decide, (by show 11 ≤ sizeLine; decide), fun l12 nl12 => ?_⟩
  have s12 := same_new (o := .lst (List.replicate (11 : Int).toNat [x]).flatten) nl12
  have h12 := upd_same (H := H11) (a := l12) (o := .lst (List.replicate (11 : Int).toNat [x]).flatten)
  generalize upd H11 l12 (.lst (List.replicate (11 : Int).toNat [x]).flatten) = H12 at s12 h12 ⊢
  have h12 : H12 l12 = some (.lst (List.replicate 11 x)) := h12
  have s1012 := s11.trans s12
  refine ⟨_, .list (List.replicate 11 dx), rfl, .lst (SqL.of h12) (dd_rep (dd10.same s1012) 11), r1, r2, r3, rfl, _, rfl, iteP rfl ?_⟩
  have s69 := g73.trans s79
  have s612 := (s69.trans s10).trans s1012
  refine ⟨_, rfl, l6, es6, [], x, rfl, ?_, er6.same s612, fun H13 m13 s13 n13 h13 => ?_⟩
  · rw [List.append_nil]
    exact s612 _ _ h6
  have dd13 := dd10.same (s1012.trans s13)
  refine ⟨_, .list (List.replicate 11 dx), rfl, .lst (SqL.of h13) (dd_rep dd13 11), r1, r2, r3, ?_⟩
  refine ⟨_, rfl, (by show 1 ≤ sizeLine; decide), fun l14 nl14 => ?_⟩
  have s14 := same_new (o := .lst [x]) nl14
  have h14 := upd_same (H := H13) (a := l14) (o := .lst [x])
  generalize upd H13 l14 (.lst [x]) = H14 at s14 h14 ⊢
  refine ⟨l14, 11, [x], rfl, rfl, h14, by decide, by decide, (by show 11 ≤ sizeLine; decide), fun l15 nl15 => ?_⟩
  have s15 := same_new (o := .lst (List.replicate (11 : Int).toNat [x]).flatten) nl15
  have h15 := upd_same (H := H14) (a := l15) (o := .lst (List.replicate (11 : Int).toNat [x]).flatten)
  generalize upd H14 l15 (.lst (List.replicate (11 : Int).toNat [x]).flatten) = H15 at s15 h15 ⊢
  have h15 : H15 l15 = some (.lst (List.replicate 11 x)) := h15
  have s1315 := s14.trans s15
  refine ⟨_, .list (List.replicate 11 dx), rfl, .lst (SqL.of h15) (dd_rep (dd13.same s1315) 11), r1, r2, r3, rfl, ?_⟩
  rw [decide_eq_true rfl]
  exact q _ ((((sB.trans s10).trans s1012).trans s13).trans s1315)
end
end K15
set_option Elab.async false
set_option linter.all false
set_option maxRecDepth 100000
set_option pp.maxSteps 500
set_option pp.deepTerms.threshold 8
set_option pp.deepTerms false
namespace K15
open PySem PySem.Spec PyProof.Rows L2 Lj
section
variable {P : Program} {w : World} {K : PySem.W.Frag} {mg : Str → Option Value} {base : Heap}
def spLaw (K : PySem.W.Frag) : Sp := fun vs H Q _ => ∃ (a : Addr) (ns : List Int), vs = [.ref a] ∧ SqL K H a (ns.map V.int) ∧ ns.length ≤ 63 ∧ ∀ H', Q (.bl true) H'
/-- a value that may be held, apart from the urn -/
def Held (K : PySem.W.Frag) (u : Addr) (H : Hp) (x : V) : Prop := ∃ d, Dd K (off u H) x d ∧ d.showable = true ∧ d.depth ≤ 10 ∧ d.shown.length ≤ 3000
theorem Held.but {u : Addr} {H H' : Hp} {x : V} (b : But u H H') (h : Held K u H x) : Held K u H' x := by
  obtain ⟨d, dd, r⟩ := h
  exact ⟨d, dd.but b, r⟩
theorem held_int {u : Addr} {H : Hp} {i : Int} (h : i.natAbs < 2 ^ 1000) : Held K u H (.int i) := by
  obtain ⟨a, b, c⟩ := nice_int (i := i) (log_of (k := 1000) h (by decide) (by decide))
  exact ⟨.int i, .int i, a, by omega, by omega⟩
set_option maxHeartbeats 4000000 in
theorem ok_law (M : Bl mg) (F : At K mg "law" sLaw ["_law_script"]) {k : Nat} (h1 : Has P w K mg base k "_law_urn" ["_law_script", "_law_k"] (spUrn K)) (h2 : Has P w K mg base k "_law_take" ["_law_urn_here", "_law_below"] spTake) (h3 : Has P w K mg base k "_law_of" ["_law_urn_here", "_law_items"] (spOf K)) (h4 : Has P w K mg base k "_law_right" ["_law_held"] (spRight K)) :
    Has P w K mg base (k + 1) "law" ["_law_script"] (spLaw K) := by
  obtain ⟨_, _, cUrn⟩ := h1
  obtain ⟨_, _, cTake⟩ := h2
  obtain ⟨_, _, cOf⟩ := h3
  obtain ⟨_, _, cRight⟩ := h4
  refine Has.by F scLaw (fun vs H Q E h => ?_) (fun f cdv A out s H vs Q E hg hr h => ?_)
  · obtain ⟨a, ns, rfl, _⟩ := h
    rfl
  obtain ⟨a, ns, rfl, hS, hl, q⟩ := h
  refine ⟨_, (pss_cons (ps_set (i := 1) scLaw.nd rfl (.inr rfl) (pe_cal cUrn hg hr (by rfl) (pa_cons (pv 0) (pa_cons pe_int pa_nil))))
  (pss_cons (ps_set (i := 2) scLaw.nd rfl (.inr rfl) (pe_lst (pa_cons pe_non (pa_cons pe_bl (pa_cons pe_int (pa_cons (pe_un un_neg pe_int) (pa_cons pe_str (pa_cons pe_str (pa_cons (pe_tup pa_nil) (pa_cons (pe_tup (pa_cons (pe_tup (pa_cons pe_int (pa_cons pe_int pa_nil))) pa_nil)) (pa_cons (pe_lst (pa_cons pe_int pa_nil)) (pa_cons pe_dnewK (pa_cons (pe_op op_pow pe_int pe_int) (pa_cons (pe_cal cTake hg hr (by rfl) (pa_cons (pv 1) (pa_cons (pe_op op_pow pe_int pe_int) pa_nil))) pa_nil))))))))))))))
  (pss_one (ps_ret (pe_callB (cr_all rfl) (by rfl) M.all_ (by decide +kernel) (pa_cons (pe_lc (own := [("_law_turn", 3)]) (g := gName 3) (by rfl) scLaw.nd (pi_range1 (by rfl) M.range_ (pa_cons pe_int pa_nil)) (blkOk_by (own := [("_law_turn", 3)]) (N := ["_law_script", "_law_urn_here", "_law_some", "_law_turn"]) (sc := defScope sLaw) (by decide +kernel)) (fun _ _ _ _ _ => (pg_name (i := 3) scLaw.nd rfl (.inl rfl))) (fun _ _ _ _ _ => pts_nil) (fun _ _ _ _ _ => (pe_cal cRight hg hr (by rfl) (pa_cons (pe_cal cOf hg hr (by rfl) (pa_cons (pv 1) (pa_cons (pv 2) pa_nil))) pa_nil)))) pa_nil)))))), ?_⟩
  refine ⟨_, rfl, a, ns, 0, rfl, hS, by decide, by decide, fun H1 u s1 nu hU => ?_⟩
  refine ⟨3, rfl, (by show 0 ≤ sizeLine; decide), fun t1 nt1 => ?_⟩
  have r1 := same_new (o := .tup []) nt1
  have g1 := upd_same (H := H1) (a := t1) (o := .tup [])
  have n1 := hU.ne nt1
  have U1 := hU.same r1
  generalize upd H1 t1 (.tup []) = G1 at r1 g1 U1 ⊢
  refine ⟨(by show 2 ≤ sizeLine; decide), fun t2 nt2 => ?_⟩
  have r2 := same_new (o := .tup [V.int 1, V.int 2]) nt2
  have g2 := upd_same (H := G1) (a := t2) (o := .tup [V.int 1, V.int 2])
  have n2 := U1.ne nt2
  have U2 := U1.same r2
  generalize upd G1 t2 (.tup [V.int 1, V.int 2]) = G2 at r2 g2 U2 ⊢
  refine ⟨(by show 1 ≤ sizeLine; decide), fun t3 nt3 => ?_⟩
  have r3 := same_new (o := .tup [V.ref t2]) nt3
  have g3 := upd_same (H := G2) (a := t3) (o := .tup [V.ref t2])
  have n3 := U2.ne nt3
  have U3 := U2.same r3
  generalize upd G2 t3 (.tup [V.ref t2]) = G3 at r3 g3 U3 ⊢
  refine ⟨(by show 1 ≤ sizeLine; decide), fun l4 nl4 => ?_⟩
  have r4 := same_new (o := .lst [V.int 1]) nl4
  have g4 := upd_same (H := G3) (a := l4) (o := .lst [V.int 1])
  have n4 := U3.ne nl4
  have U4 := U3.same r4
  generalize upd G3 l4 (.lst [V.int 1]) = G4 at r4 g4 U4 ⊢
  refine fun d5 nd5 => ?_
  have r5 := same_new (o := .dK []) nd5
  have g5 := upd_same (H := G4) (a := d5) (o := .dK [])
  have n5 := U4.ne nd5
  have U5 := U4.same r5
  generalize upd G4 d5 (.dK []) = G5 at r5 g5 U5 ⊢
  refine ⟨10, 60, rfl, rfl, ⟨by decide, by decide, by decide⟩, _, rfl, 10, 9, rfl, rfl, ⟨by decide, by decide, by decide⟩, u, _, rfl, U5, by decide, wide_big (by decide) (by decide), fun z G6 z0 z1 U6 b6 => ?_⟩
  have z1 : z < 10 ^ 9 := z1
  have zb : z.natAbs < 2 ^ 1000 := by
    have : (10 ^ 9 : Nat) < 2 ^ 1000 := by decide +kernel
    omega
  have r45 := r4.trans r5
  have r35 := r3.trans r45
  have r25 := r2.trans r35
  refine ⟨(by show 12 ≤ sizeLine; decide), fun lo nlo => ?_⟩
  have held : ∀ y ∈ [V.non, V.bl true, V.int 0, V.int (-3), V.str "", V.str "x", V.ref t1, V.ref t3, V.ref l4, V.ref d5, V.int (10 ^ 60), V.int z], Held K u G6 y := by
    intro y my
    simp only [List.mem_cons, List.not_mem_nil, or_false] at my
    rcases my with rfl | rfl | rfl | rfl | rfl | rfl | rfl | rfl | rfl | rfl | rfl | rfl
    · exact ⟨.none, .non, by decide +kernel, by decide +kernel, by decide +kernel⟩
    · exact ⟨.bool true, .bl true, by decide +kernel, by decide +kernel, by decide +kernel⟩
    · exact held_int (by decide +kernel)
    · exact held_int (by decide +kernel)
    · exact ⟨.str "", .str "", by decide +kernel, by decide +kernel, by decide +kernel⟩
    · exact ⟨.str "x", .str "x", by decide +kernel, by decide +kernel, by decide +kernel⟩
    · exact ⟨.tuple [], .tup (SqT.of (off_at (b6 _ _ n1 (r25 _ _ g1)) n1)) .nil, by decide +kernel, by decide +kernel, by decide +kernel⟩
    · exact ⟨.tuple [.tuple [.int 1, .int 2]], .tup (SqT.of (off_at (b6 _ _ n3 (r45 _ _ g3)) n3)) (.cons (.tup (SqT.of (off_at (b6 _ _ n2 (r35 _ _ g2)) n2)) (.cons (.int 1) (.cons (.int 2) .nil))) .nil), by decide +kernel, by decide +kernel, by decide +kernel⟩
    · exact ⟨.list [.int 1], .lst (SqL.of (off_at (b6 _ _ n4 (r5 _ _ g4)) n4)) (.cons (.int 1) .nil), by decide +kernel, by decide +kernel, by decide +kernel⟩
    · exact ⟨.dict [], .dct (kds := []) (off_at (b6 _ _ n5 g5) n5) rfl .nil, by decide +kernel, by decide +kernel, by decide +kernel⟩
    · exact held_int (by decide +kernel)
    · exact held_int zb
  generalize hod : [V.non, V.bl true, V.int 0, V.int (-3), V.str "", V.str "x", V.ref t1, V.ref t3, V.ref l4, V.ref d5, V.int (10 ^ 60), V.int z] = od at held
  have odl : od.length = 12 := by rw [← hod]; rfl
  have nlu := U6.ne nlo
  generalize hG7 : upd G6 lo _ = G7
  have r7 : Same G6 G7 := by
    rw [← hG7]
    exact same_new nlo
  have g7 : G7 lo = some (.lst od) := by
    rw [← hG7, ← hod]
    exact upd_same
  clear hG7 hod
  have U7 := U6.same r7
  have held7 : ∀ y ∈ od, Held K u G7 y := fun y my => (held y my).but (But.same r7)
  refine ⟨3, rfl, by decide, by decide, fun D nD => ?_⟩
  have nDu : D ≠ u := U7.ne nD
  have nDl : D ≠ lo := (ne_of_none g7 nD).symm
  refine lc_range (lo := 0) (n := 3) (fun i H' => H' D = some (.lst ((List.replicate i true).map V.bl)) ∧ Urn H' u ∧ But u G7 H') ⟨upd_same, U7.same (same_new nD), But.new nD⟩ ?_ ?_
  · rintro j H8 hj ⟨e1, e2, e3⟩
    refine ⟨rfl, ?_⟩
    refine ⟨_, rfl, _, rfl, u, lo, od, rfl, e2, nlu, SqL.of (e3 _ _ nlu g7), ?_, by omega, fun y H9 my U9 b9 => ?_⟩
    · intro z
      rw [z] at odl
      cases odl
    obtain ⟨d, dd, w1, w2, w3⟩ := (held7 y my).but (e3.trans b9)
    refine ⟨y, d, rfl, dd.on, w1, w2, w3, fun H10 s10 => ?_⟩
    refine ⟨_, s10 _ _ (b9 _ _ nDu e1), ?_, upd_same.trans ?_, (U9.same s10).but (q := D) But.upd nDu.symm, fun x o ne ho => ?_⟩
    · rw [List.length_map, List.length_replicate]
      exact small1000 (by omega)
    · rw [List.replicate_succ', List.map_append]
      rfl
    · rw [upd_ne (ne_of_none ho nD)]
      exact s10 _ _ (b9 _ _ ne (e3 _ _ ne ho))
  · rintro H8 ⟨e1, e2, e3⟩
    exact ⟨D, List.replicate 3 true, rfl, SqL.of e1, q _⟩
end
end K15
set_option Elab.async false
set_option linter.all false
set_option maxRecDepth 100000
set_option pp.maxSteps 500
set_option pp.deepTerms.threshold 8
set_option pp.deepTerms false
namespace K15
open PySem PySem.Spec PyProof.Rows L2 Lj
section
variable {P : Program} {w : World} {K : PySem.W.Frag} {mg : Str → Option Value} {base : Heap}
theorem has_urn (M : Bl mg) (F : At K mg "_law_urn" sUrn ["_law_script", "_law_k"]) : Has P w K mg base 1 "_law_urn" ["_law_script", "_law_k"] (spUrn K) := by
  obtain ⟨f, fd, F, b, g⟩ := F
  exact ⟨f, fd, .of (ok_urn F M.len_ M.abs_ M.int_), F.kp, b, g, fun_lk F⟩
theorem has_take (F : At K mg "_law_take" sTake ["_law_urn_here", "_law_below"]) : Has P w K mg base 1 "_law_take" ["_law_urn_here", "_law_below"] spTake := by
  obtain ⟨f, fd, F, b, g⟩ := F
  exact ⟨f, fd, .of (ok_take F), F.kp, b, g, fun_lk F⟩
theorem has_of (M : Bl mg) (F : At K mg "_law_of" sOf ["_law_urn_here", "_law_items"]) (FT : At K mg "_law_take" sTake ["_law_urn_here", "_law_below"]) : Has P w K mg base 2 "_law_of" ["_law_urn_here", "_law_items"] (spOf K) := by
  obtain ⟨f, fd, F, b, g⟩ := F
  obtain ⟨f2, fd2, F2, b2, g2⟩ := FT
  exact ⟨f, fd, .of (ok_of F F2 b2 g2 M.len_), F.kp, b, g, fun_lk F⟩
end
set_option maxHeartbeats 16000000
theorem all_mk {l : PySem.W.OpenLaw} {w : World} {K : PySem.W.Frag} {h : Heap} {mg : Str → Option Value} {fa f0 f1 f2 f3 f4 f5 f6 f7 f8 : Addr} (X : K.In h) (G : h.Ns mainGlobals mg) (hfa : mg "law" = some (.ref fa))
    {od0 an0 od1 an1 od2 an2 od3 an3 od4 an4 od5 an5 od6 an6 od7 an7 od8 an8 : Option Addr} {sl0 sl1 sl2 sl3 sl4 sl5 sl6 sl7 sl8 : Array (Option Value)} {oc0 kV0 dc0 pm0 cd0 ct0 oc1 kV1 dc1 pm1 cd1 ct1 oc2 kV2 dc2 pm2 cd2 ct2 oc3 kV3 dc3 pm3 cd3 ct3 oc4 kV4 dc4 pm4 cd4 ct4 oc5 kV5 dc5 pm5 cd5 ct5 oc6 kV6 dc6 pm6 cd6 ct6 oc7 kV7 dc7 pm7 cd7 ct7 oc8 kV8 dc8 pm8 cd8 ct8 : Value}
    (a0 : PySem.W.nsIn K mainGlobals "_law_urn" = some (some (.ref f0))) (l0 : K.lookup f0 = some ⟨oc0, od0, .func (PySem.W.fnOf "_law_urn" "_law_urn" (defArgs sUrn) (defBody sUrn) (defScope sUrn) .none kV0 dc0 pm0 an0 cd0 ct0), sl0⟩) (c0 : PySem.W.codeIn K cd0 "_law_urn" = true) (k0 : PySem.W.keepIn K (.ref f0) = true)
    (a1 : PySem.W.nsIn K mainGlobals "_law_take" = some (some (.ref f1))) (l1 : K.lookup f1 = some ⟨oc1, od1, .func (PySem.W.fnOf "_law_take" "_law_take" (defArgs sTake) (defBody sTake) (defScope sTake) .none kV1 dc1 pm1 an1 cd1 ct1), sl1⟩) (c1 : PySem.W.codeIn K cd1 "_law_take" = true) (k1 : PySem.W.keepIn K (.ref f1) = true)
    (a2 : PySem.W.nsIn K mainGlobals "_law_of" = some (some (.ref f2))) (l2 : K.lookup f2 = some ⟨oc2, od2, .func (PySem.W.fnOf "_law_of" "_law_of" (defArgs sOf) (defBody sOf) (defScope sOf) .none kV2 dc2 pm2 an2 cd2 ct2), sl2⟩) (c2 : PySem.W.codeIn K cd2 "_law_of" = true) (k2 : PySem.W.keepIn K (.ref f2) = true)
    (a3 : PySem.W.nsIn K mainGlobals "_law_made" = some (some (.ref f3))) (l3 : K.lookup f3 = some ⟨oc3, od3, .func (PySem.W.fnOf "_law_made" "_law_made" (defArgs sMade) (defBody sMade) (defScope sMade) .none kV3 dc3 pm3 an3 cd3 ct3), sl3⟩) (c3 : PySem.W.codeIn K cd3 "_law_made" = true) (k3 : PySem.W.keepIn K (.ref f3) = true)
    (a4 : PySem.W.nsIn K mainGlobals "_law_named" = some (some (.ref f4))) (l4 : K.lookup f4 = some ⟨oc4, od4, .func (PySem.W.fnOf "_law_named" "_law_named" (defArgs sNamed) (defBody sNamed) (defScope sNamed) .none kV4 dc4 pm4 an4 cd4 ct4), sl4⟩) (c4 : PySem.W.codeIn K cd4 "_law_named" = true) (k4 : PySem.W.keepIn K (.ref f4) = true)
    (a5 : PySem.W.nsIn K mainGlobals "_law_kinds" = some (some (.ref f5))) (l5 : K.lookup f5 = some ⟨oc5, od5, .func (PySem.W.fnOf "_law_kinds" "_law_kinds" (defArgs sKinds) (defBody sKinds) (defScope sKinds) .none kV5 dc5 pm5 an5 cd5 ct5), sl5⟩) (c5 : PySem.W.codeIn K cd5 "_law_kinds" = true) (k5 : PySem.W.keepIn K (.ref f5) = true)
    (a6 : PySem.W.nsIn K mainGlobals "_law_values" = some (some (.ref f6))) (l6 : K.lookup f6 = some ⟨oc6, od6, .func (PySem.W.fnOf "_law_values" "_law_values" (defArgs sValues) (defBody sValues) (defScope sValues) .none kV6 dc6 pm6 an6 cd6 ct6), sl6⟩) (c6 : PySem.W.codeIn K cd6 "_law_values" = true) (k6 : PySem.W.keepIn K (.ref f6) = true)
    (a7 : PySem.W.nsIn K mainGlobals "_law_right" = some (some (.ref f7))) (l7 : K.lookup f7 = some ⟨oc7, od7, .func (PySem.W.fnOf "_law_right" "_law_right" (defArgs sRight) (defBody sRight) (defScope sRight) .none kV7 dc7 pm7 an7 cd7 ct7), sl7⟩) (c7 : PySem.W.codeIn K cd7 "_law_right" = true) (k7 : PySem.W.keepIn K (.ref f7) = true)
    (a8 : PySem.W.nsIn K mainGlobals "law" = some (some (.ref f8))) (l8 : K.lookup f8 = some ⟨oc8, od8, .func (PySem.W.fnOf "law" "law" (defArgs sLaw) (defBody sLaw) (defScope sLaw) .none kV8 dc8 pm8 an8 cd8 ct8), sl8⟩) (c8 : PySem.W.codeIn K cd8 "law" = true) (k8 : PySem.W.keepIn K (.ref f8) = true)
    (z0 : PySem.W.nsIn K mainGlobals "len" = some none)
    (z1 : PySem.W.nsIn K mainGlobals "abs" = some none)
    (z2 : PySem.W.nsIn K mainGlobals "int" = some none)
    (z3 : PySem.W.nsIn K mainGlobals "range" = some none)
    (z4 : PySem.W.nsIn K mainGlobals "max" = some none)
    (z5 : PySem.W.nsIn K mainGlobals "min" = some none)
    (z6 : PySem.W.nsIn K mainGlobals "all" = some none)
    (z7 : PySem.W.nsIn K mainGlobals "sum" = some none)
    (z8 : PySem.W.nsIn K mainGlobals "list" = some none)
    (z9 : PySem.W.nsIn K mainGlobals "tuple" = some none)
    (z10 : PySem.W.nsIn K mainGlobals "isinstance" = some none)
    (z11 : PySem.W.nsIn K mainGlobals "bool" = some none)
    (z12 : PySem.W.nsIn K mainGlobals "repr" = some none)
    (z13 : PySem.W.nsIn K mainGlobals "enumerate" = some none)
    (z14 : PySem.W.nsIn K mainGlobals "zip" = some none)
    (z15 : PySem.W.nsIn K mainGlobals "divmod" = some none)
    (y0 : PySem.W.nsIn K mainGlobals "LookupError" = some none)
    {CJ CE11_ CE12_ CE0_ fE0_ NE0_ cdaE0_ ccE0_ CE1_ fE1_ NE1_ cdaE1_ ccE1_ CE2_ fE2_ NE2_ cdaE2_ ccE2_ CE3_ fE3_ NE3_ cdaE3_ ccE3_ CE4_ fE4_ NE4_ cdaE4_ ccE4_ CE5_ fE5_ NE5_ cdaE5_ ccE5_ CE6_ fE6_ NE6_ cdaE6_ ccE6_ CE7_ fE7_ NE7_ cdaE7_ ccE7_ CE8_ fE8_ NE8_ cdaE8_ ccE8_ CE9_ fE9_ NE9_ cdaE9_ ccE9_ CE10_ fE10_ NE10_ cdaE10_ ccE10_ : Addr} {ddE0_ odE0_ anE0_ cddE0_ cldE0_ ddE1_ odE1_ anE1_ cddE1_ cldE1_ ddE2_ odE2_ anE2_ cddE2_ cldE2_ ddE3_ odE3_ anE3_ cddE3_ cldE3_ ddE4_ odE4_ anE4_ cddE4_ cldE4_ ddE5_ odE5_ anE5_ cddE5_ cldE5_ ddE6_ odE6_ anE6_ cddE6_ cldE6_ ddE7_ odE7_ anE7_ cddE7_ cldE7_ ddE8_ odE8_ anE8_ cddE8_ cldE8_ ddE9_ odE9_ anE9_ cddE9_ cldE9_ ddE10_ odE10_ anE10_ cddE10_ cldE10_ : Option Addr} {slE0_ ccsE0_ cslE0_ slE1_ ccsE1_ cslE1_ slE2_ ccsE2_ cslE2_ slE3_ ccsE3_ cslE3_ slE4_ ccsE4_ cslE4_ slE5_ ccsE5_ cslE5_ slE6_ ccsE6_ cslE6_ slE7_ ccsE7_ cslE7_ slE8_ ccsE8_ cslE8_ slE9_ ccsE9_ cslE9_ slE10_ ccsE10_ cslE10_ : Array (Option Value)} {ocE0_ dcE0_ pmE0_ ctE0_ cclE0_ clE0_ ocE1_ dcE1_ pmE1_ ctE1_ cclE1_ clE1_ ocE2_ dcE2_ pmE2_ ctE2_ cclE2_ clE2_ ocE3_ dcE3_ pmE3_ ctE3_ cclE3_ clE3_ ocE4_ dcE4_ pmE4_ ctE4_ cclE4_ clE4_ ocE5_ dcE5_ pmE5_ ctE5_ cclE5_ clE5_ ocE6_ dcE6_ pmE6_ ctE6_ cclE6_ clE6_ ocE7_ dcE7_ pmE7_ ctE7_ cclE7_ clE7_ ocE8_ dcE8_ pmE8_ ctE8_ cclE8_ clE8_ ocE9_ dcE9_ pmE9_ ctE9_ cclE9_ clE9_ ocE10_ dcE10_ pmE10_ ctE10_ cclE10_ clE10_ : Value} {nmE0_ qE0_ fileE0_ nmE1_ qE1_ fileE1_ nmE2_ qE2_ fileE2_ nmE3_ qE3_ fileE3_ nmE4_ qE4_ fileE4_ nmE5_ qE5_ fileE5_ nmE6_ qE6_ fileE6_ nmE7_ qE7_ fileE7_ nmE8_ qE8_ fileE8_ nmE9_ qE9_ fileE9_ nmE10_ qE10_ fileE10_ : Str} {tfE0_ tfE1_ tfE2_ tfE3_ tfE4_ tfE5_ tfE6_ tfE7_ tfE8_ tfE9_ tfE10_ : Tok} {bsE0_ subE0_ bsE1_ subE1_ bsE2_ subE2_ bsE3_ subE3_ bsE4_ subE4_ bsE5_ subE5_ bsE6_ subE6_ bsE7_ subE7_ bsE8_ subE8_ bsE9_ subE9_ bsE10_ subE10_ : List Value}
    (aEJ : PySem.W.nsIn K mainGlobals "JournalError" = some (some (.ref CJ))) (eEJ : PySem.W.subIn K (.ref CJ) (.type "BaseException") = some true) (hEJ : PySem.W.hasDictIn K CJ = true) (yEJ : PySem.W.typeIn K (.ref CJ) = some (.type "type"))
    (zsu : PySem.W.nsIn K mainGlobals "super" = some none) (zve : PySem.W.nsIn K mainGlobals "ValueError" = some none) (zop : PySem.W.nsIn K PySem.cStatics "thirdparty.any" = some none) (ztp : (l.prog.main.scope.names.lookup ("super" : Str)).isSome = false)
    (aEE11_ : PySem.W.nsIn K mainGlobals "NoStep" = some (some (.ref CE11_)))
    (aEE12_ : PySem.W.nsIn K mainGlobals "NotEnough" = some (some (.ref CE12_)))
    {snE0_ : List Str} {abE0_ : Bool} {colE0_ : Option Bool} {m0E0_ m1E0_ m2E0_ m3E0_ m5E0_ : Option Value} {vsE0_ : Array Value}
    (aEE0_ : PySem.W.nsIn K mainGlobals "BadField" = some (some (.ref CE0_))) (xEE0_ : K.lookup CE0_ = some (excClassObj nmE0_ qE0_ CE0_ NE0_ bsE0_ [.ref CJ, .type "ValueError", .type "Exception", .type "BaseException", .type "object"] true snE0_ subE0_ abE0_ colE0_ ddE0_ m0E0_ m1E0_ m2E0_ m3E0_ m5E0_ "ValueError.__new__")) (saEE0_ : PySem.W.findIn K (.ref CE0_) "__setattr__" = some (some (.builtin "object.__setattr__"))) (gEE0_1 : PySem.W.findIn K (.ref CE0_) "__getattribute__" = some (some (.builtin "BaseException.__getattribute__"))) (gEE0_2 : PySem.W.findIn K (.ref CE0_) "__getattr__" = some none) (nEE0_ : PySem.W.findIn K (.ref CE0_) "value" = some none) (iEE0_ : PySem.W.findIn K (.ref CE0_) "__init__" = some (some (.ref fE0_))) (tEE0_ : PySem.W.typeIn K (.ref fE0_) = some (.type "function")) (kEE0_ : PySem.W.keepIn K (.ref CE0_) = true) (eEE0_ : PySem.W.subIn K (.ref CE0_) (.type "BaseException") = some true) (vEE0_ : PySem.W.subIn K (.ref CE0_) (.type "ValueError") = some true) (yEE0_ : PySem.W.typeIn K (.ref CE0_) = some (.type "type")) (hEE0_ : PySem.W.hasDictIn K CE0_ = true) (rEE0_ : PySem.W.mroIn K CE0_ (.ref CE0_) = some true) (uEE0_ : PySem.W.ks_superIn K CE0_ CE0_ "__init__" = some (some (.builtin "ValueError.__init__"))) (lEE0_ : K.lookup fE0_ = some ⟨ocE0_, odE0_, .func (PySem.W.ksFn "__init__" "BadField.__init__" (defArgs sE0) (defBody sE0) (defScope sE0) .none .none dcE0_ pmE0_ anE0_ (.ref cdaE0_) ctE0_ ccE0_), slE0_⟩) (cEE0_ : PySem.W.codeIn K (.ref cdaE0_) "BadField.__init__" = true) (dEE0_ : K.lookup cdaE0_ = some ⟨cclE0_, cddE0_, .fields vsE0_, ccsE0_⟩) (wEE0_ : vsE0_[2]? = some (.str fileE0_ tfE0_)) (oEE0_ : ((l.prog.main.file : Str) == fileE0_) = true) (qEE0_ : K.lookup ccE0_ = some ⟨clE0_, cldE0_, .cell (some (.ref CE0_)), cslE0_⟩) (jEE0_ : PySem.W.subIn K (.ref CE0_) (.ref CJ) = some true) (bEE0_1 : PySem.W.findIn K (.ref CE0_) "__class__" = some (some (.builtin "object.__class__"))) (bEE0_2 : PySem.W.specialIn K (.builtin "object.__class__") "__get__" = some (some (.builtin "getset_descriptor.__get__"))) (bEE0_3 : PySem.W.takesIn K (.builtin "object.__class__") = some true) (bEE0_4 : PySem.W.mroIn K CE0_ (.type "object") = some true)
    {snE1_ : List Str} {abE1_ : Bool} {colE1_ : Option Bool} {m0E1_ m1E1_ m2E1_ m3E1_ m5E1_ : Option Value} {vsE1_ : Array Value}
    (aEE1_ : PySem.W.nsIn K mainGlobals "BadRegisters" = some (some (.ref CE1_))) (xEE1_ : K.lookup CE1_ = some (excClassObj nmE1_ qE1_ CE1_ NE1_ bsE1_ [.ref CJ, .type "ValueError", .type "Exception", .type "BaseException", .type "object"] true snE1_ subE1_ abE1_ colE1_ ddE1_ m0E1_ m1E1_ m2E1_ m3E1_ m5E1_ "ValueError.__new__")) (saEE1_ : PySem.W.findIn K (.ref CE1_) "__setattr__" = some (some (.builtin "object.__setattr__"))) (gEE1_1 : PySem.W.findIn K (.ref CE1_) "__getattribute__" = some (some (.builtin "BaseException.__getattribute__"))) (gEE1_2 : PySem.W.findIn K (.ref CE1_) "__getattr__" = some none) (nEE1_ : PySem.W.findIn K (.ref CE1_) "value" = some none) (iEE1_ : PySem.W.findIn K (.ref CE1_) "__init__" = some (some (.ref fE1_))) (tEE1_ : PySem.W.typeIn K (.ref fE1_) = some (.type "function")) (kEE1_ : PySem.W.keepIn K (.ref CE1_) = true) (eEE1_ : PySem.W.subIn K (.ref CE1_) (.type "BaseException") = some true) (vEE1_ : PySem.W.subIn K (.ref CE1_) (.type "ValueError") = some true) (yEE1_ : PySem.W.typeIn K (.ref CE1_) = some (.type "type")) (hEE1_ : PySem.W.hasDictIn K CE1_ = true) (rEE1_ : PySem.W.mroIn K CE1_ (.ref CE1_) = some true) (uEE1_ : PySem.W.ks_superIn K CE1_ CE1_ "__init__" = some (some (.builtin "ValueError.__init__"))) (lEE1_ : K.lookup fE1_ = some ⟨ocE1_, odE1_, .func (PySem.W.ksFn "__init__" "BadRegisters.__init__" (defArgs sE1) (defBody sE1) (defScope sE1) .none .none dcE1_ pmE1_ anE1_ (.ref cdaE1_) ctE1_ ccE1_), slE1_⟩) (cEE1_ : PySem.W.codeIn K (.ref cdaE1_) "BadRegisters.__init__" = true) (dEE1_ : K.lookup cdaE1_ = some ⟨cclE1_, cddE1_, .fields vsE1_, ccsE1_⟩) (wEE1_ : vsE1_[2]? = some (.str fileE1_ tfE1_)) (oEE1_ : ((l.prog.main.file : Str) == fileE1_) = true) (qEE1_ : K.lookup ccE1_ = some ⟨clE1_, cldE1_, .cell (some (.ref CE1_)), cslE1_⟩) (jEE1_ : PySem.W.subIn K (.ref CE1_) (.ref CJ) = some true) (bEE1_1 : PySem.W.findIn K (.ref CE1_) "__class__" = some (some (.builtin "object.__class__"))) (bEE1_2 : PySem.W.specialIn K (.builtin "object.__class__") "__get__" = some (some (.builtin "getset_descriptor.__get__"))) (bEE1_3 : PySem.W.takesIn K (.builtin "object.__class__") = some true) (bEE1_4 : PySem.W.mroIn K CE1_ (.type "object") = some true)
    {snE2_ : List Str} {abE2_ : Bool} {colE2_ : Option Bool} {m0E2_ m1E2_ m2E2_ m3E2_ m5E2_ : Option Value} {vsE2_ : Array Value}
    (aEE2_ : PySem.W.nsIn K mainGlobals "BadProgram" = some (some (.ref CE2_))) (xEE2_ : K.lookup CE2_ = some (excClassObj nmE2_ qE2_ CE2_ NE2_ bsE2_ [.ref CJ, .type "ValueError", .type "Exception", .type "BaseException", .type "object"] true snE2_ subE2_ abE2_ colE2_ ddE2_ m0E2_ m1E2_ m2E2_ m3E2_ m5E2_ "ValueError.__new__")) (saEE2_ : PySem.W.findIn K (.ref CE2_) "__setattr__" = some (some (.builtin "object.__setattr__"))) (gEE2_1 : PySem.W.findIn K (.ref CE2_) "__getattribute__" = some (some (.builtin "BaseException.__getattribute__"))) (gEE2_2 : PySem.W.findIn K (.ref CE2_) "__getattr__" = some none) (nEE2_ : PySem.W.findIn K (.ref CE2_) "value" = some none) (iEE2_ : PySem.W.findIn K (.ref CE2_) "__init__" = some (some (.ref fE2_))) (tEE2_ : PySem.W.typeIn K (.ref fE2_) = some (.type "function")) (kEE2_ : PySem.W.keepIn K (.ref CE2_) = true) (eEE2_ : PySem.W.subIn K (.ref CE2_) (.type "BaseException") = some true) (vEE2_ : PySem.W.subIn K (.ref CE2_) (.type "ValueError") = some true) (yEE2_ : PySem.W.typeIn K (.ref CE2_) = some (.type "type")) (hEE2_ : PySem.W.hasDictIn K CE2_ = true) (rEE2_ : PySem.W.mroIn K CE2_ (.ref CE2_) = some true) (uEE2_ : PySem.W.ks_superIn K CE2_ CE2_ "__init__" = some (some (.builtin "ValueError.__init__"))) (lEE2_ : K.lookup fE2_ = some ⟨ocE2_, odE2_, .func (PySem.W.ksFn "__init__" "BadProgram.__init__" (defArgs sE2) (defBody sE2) (defScope sE2) .none .none dcE2_ pmE2_ anE2_ (.ref cdaE2_) ctE2_ ccE2_), slE2_⟩) (cEE2_ : PySem.W.codeIn K (.ref cdaE2_) "BadProgram.__init__" = true) (dEE2_ : K.lookup cdaE2_ = some ⟨cclE2_, cddE2_, .fields vsE2_, ccsE2_⟩) (wEE2_ : vsE2_[2]? = some (.str fileE2_ tfE2_)) (oEE2_ : ((l.prog.main.file : Str) == fileE2_) = true) (qEE2_ : K.lookup ccE2_ = some ⟨clE2_, cldE2_, .cell (some (.ref CE2_)), cslE2_⟩) (jEE2_ : PySem.W.subIn K (.ref CE2_) (.ref CJ) = some true) (bEE2_1 : PySem.W.findIn K (.ref CE2_) "__class__" = some (some (.builtin "object.__class__"))) (bEE2_2 : PySem.W.specialIn K (.builtin "object.__class__") "__get__" = some (some (.builtin "getset_descriptor.__get__"))) (bEE2_3 : PySem.W.takesIn K (.builtin "object.__class__") = some true) (bEE2_4 : PySem.W.mroIn K CE2_ (.type "object") = some true)
    {snE3_ : List Str} {abE3_ : Bool} {colE3_ : Option Bool} {m0E3_ m1E3_ m2E3_ m3E3_ m5E3_ : Option Value} {vsE3_ : Array Value}
    (aEE3_ : PySem.W.nsIn K mainGlobals "BadInputs" = some (some (.ref CE3_))) (xEE3_ : K.lookup CE3_ = some (excClassObj nmE3_ qE3_ CE3_ NE3_ bsE3_ [.ref CJ, .type "ValueError", .type "Exception", .type "BaseException", .type "object"] true snE3_ subE3_ abE3_ colE3_ ddE3_ m0E3_ m1E3_ m2E3_ m3E3_ m5E3_ "ValueError.__new__")) (saEE3_ : PySem.W.findIn K (.ref CE3_) "__setattr__" = some (some (.builtin "object.__setattr__"))) (gEE3_1 : PySem.W.findIn K (.ref CE3_) "__getattribute__" = some (some (.builtin "BaseException.__getattribute__"))) (gEE3_2 : PySem.W.findIn K (.ref CE3_) "__getattr__" = some none) (nEE3_ : PySem.W.findIn K (.ref CE3_) "value" = some none) (iEE3_ : PySem.W.findIn K (.ref CE3_) "__init__" = some (some (.ref fE3_))) (tEE3_ : PySem.W.typeIn K (.ref fE3_) = some (.type "function")) (kEE3_ : PySem.W.keepIn K (.ref CE3_) = true) (eEE3_ : PySem.W.subIn K (.ref CE3_) (.type "BaseException") = some true) (vEE3_ : PySem.W.subIn K (.ref CE3_) (.type "ValueError") = some true) (yEE3_ : PySem.W.typeIn K (.ref CE3_) = some (.type "type")) (hEE3_ : PySem.W.hasDictIn K CE3_ = true) (rEE3_ : PySem.W.mroIn K CE3_ (.ref CE3_) = some true) (uEE3_ : PySem.W.ks_superIn K CE3_ CE3_ "__init__" = some (some (.builtin "ValueError.__init__"))) (lEE3_ : K.lookup fE3_ = some ⟨ocE3_, odE3_, .func (PySem.W.ksFn "__init__" "BadInputs.__init__" (defArgs sE3) (defBody sE3) (defScope sE3) .none .none dcE3_ pmE3_ anE3_ (.ref cdaE3_) ctE3_ ccE3_), slE3_⟩) (cEE3_ : PySem.W.codeIn K (.ref cdaE3_) "BadInputs.__init__" = true) (dEE3_ : K.lookup cdaE3_ = some ⟨cclE3_, cddE3_, .fields vsE3_, ccsE3_⟩) (wEE3_ : vsE3_[2]? = some (.str fileE3_ tfE3_)) (oEE3_ : ((l.prog.main.file : Str) == fileE3_) = true) (qEE3_ : K.lookup ccE3_ = some ⟨clE3_, cldE3_, .cell (some (.ref CE3_)), cslE3_⟩) (jEE3_ : PySem.W.subIn K (.ref CE3_) (.ref CJ) = some true) (bEE3_1 : PySem.W.findIn K (.ref CE3_) "__class__" = some (some (.builtin "object.__class__"))) (bEE3_2 : PySem.W.specialIn K (.builtin "object.__class__") "__get__" = some (some (.builtin "getset_descriptor.__get__"))) (bEE3_3 : PySem.W.takesIn K (.builtin "object.__class__") = some true) (bEE3_4 : PySem.W.mroIn K CE3_ (.type "object") = some true)
    {snE4_ : List Str} {abE4_ : Bool} {colE4_ : Option Bool} {m0E4_ m1E4_ m2E4_ m3E4_ m5E4_ : Option Value} {vsE4_ : Array Value}
    (aEE4_ : PySem.W.nsIn K mainGlobals "BadMoment" = some (some (.ref CE4_))) (xEE4_ : K.lookup CE4_ = some (excClassObj nmE4_ qE4_ CE4_ NE4_ bsE4_ [.ref CJ, .type "ValueError", .type "Exception", .type "BaseException", .type "object"] true snE4_ subE4_ abE4_ colE4_ ddE4_ m0E4_ m1E4_ m2E4_ m3E4_ m5E4_ "ValueError.__new__")) (saEE4_ : PySem.W.findIn K (.ref CE4_) "__setattr__" = some (some (.builtin "object.__setattr__"))) (gEE4_1 : PySem.W.findIn K (.ref CE4_) "__getattribute__" = some (some (.builtin "BaseException.__getattribute__"))) (gEE4_2 : PySem.W.findIn K (.ref CE4_) "__getattr__" = some none) (nEE4_ : PySem.W.findIn K (.ref CE4_) "moment" = some none) (iEE4_ : PySem.W.findIn K (.ref CE4_) "__init__" = some (some (.ref fE4_))) (tEE4_ : PySem.W.typeIn K (.ref fE4_) = some (.type "function")) (kEE4_ : PySem.W.keepIn K (.ref CE4_) = true) (eEE4_ : PySem.W.subIn K (.ref CE4_) (.type "BaseException") = some true) (vEE4_ : PySem.W.subIn K (.ref CE4_) (.type "ValueError") = some true) (yEE4_ : PySem.W.typeIn K (.ref CE4_) = some (.type "type")) (hEE4_ : PySem.W.hasDictIn K CE4_ = true) (rEE4_ : PySem.W.mroIn K CE4_ (.ref CE4_) = some true) (uEE4_ : PySem.W.ks_superIn K CE4_ CE4_ "__init__" = some (some (.builtin "ValueError.__init__"))) (lEE4_ : K.lookup fE4_ = some ⟨ocE4_, odE4_, .func (PySem.W.ksFn "__init__" "BadMoment.__init__" (defArgs sE4) (defBody sE4) (defScope sE4) .none .none dcE4_ pmE4_ anE4_ (.ref cdaE4_) ctE4_ ccE4_), slE4_⟩) (cEE4_ : PySem.W.codeIn K (.ref cdaE4_) "BadMoment.__init__" = true) (dEE4_ : K.lookup cdaE4_ = some ⟨cclE4_, cddE4_, .fields vsE4_, ccsE4_⟩) (wEE4_ : vsE4_[2]? = some (.str fileE4_ tfE4_)) (oEE4_ : ((l.prog.main.file : Str) == fileE4_) = true) (qEE4_ : K.lookup ccE4_ = some ⟨clE4_, cldE4_, .cell (some (.ref CE4_)), cslE4_⟩) (jEE4_ : PySem.W.subIn K (.ref CE4_) (.ref CJ) = some true) (bEE4_1 : PySem.W.findIn K (.ref CE4_) "__class__" = some (some (.builtin "object.__class__"))) (bEE4_2 : PySem.W.specialIn K (.builtin "object.__class__") "__get__" = some (some (.builtin "getset_descriptor.__get__"))) (bEE4_3 : PySem.W.takesIn K (.builtin "object.__class__") = some true) (bEE4_4 : PySem.W.mroIn K CE4_ (.type "object") = some true)
    {snE5_ : List Str} {abE5_ : Bool} {colE5_ : Option Bool} {m0E5_ m1E5_ m2E5_ m3E5_ m5E5_ : Option Value} {vsE5_ : Array Value}
    (aEE5_ : PySem.W.nsIn K mainGlobals "BadRegister" = some (some (.ref CE5_))) (xEE5_ : K.lookup CE5_ = some (excClassObj nmE5_ qE5_ CE5_ NE5_ bsE5_ [.ref CJ, .type "ValueError", .type "Exception", .type "BaseException", .type "object"] true snE5_ subE5_ abE5_ colE5_ ddE5_ m0E5_ m1E5_ m2E5_ m3E5_ m5E5_ "ValueError.__new__")) (saEE5_ : PySem.W.findIn K (.ref CE5_) "__setattr__" = some (some (.builtin "object.__setattr__"))) (gEE5_1 : PySem.W.findIn K (.ref CE5_) "__getattribute__" = some (some (.builtin "BaseException.__getattribute__"))) (gEE5_2 : PySem.W.findIn K (.ref CE5_) "__getattr__" = some none) (nEE5_ : PySem.W.findIn K (.ref CE5_) "x" = some none) (iEE5_ : PySem.W.findIn K (.ref CE5_) "__init__" = some (some (.ref fE5_))) (tEE5_ : PySem.W.typeIn K (.ref fE5_) = some (.type "function")) (kEE5_ : PySem.W.keepIn K (.ref CE5_) = true) (eEE5_ : PySem.W.subIn K (.ref CE5_) (.type "BaseException") = some true) (vEE5_ : PySem.W.subIn K (.ref CE5_) (.type "ValueError") = some true) (yEE5_ : PySem.W.typeIn K (.ref CE5_) = some (.type "type")) (hEE5_ : PySem.W.hasDictIn K CE5_ = true) (rEE5_ : PySem.W.mroIn K CE5_ (.ref CE5_) = some true) (uEE5_ : PySem.W.ks_superIn K CE5_ CE5_ "__init__" = some (some (.builtin "ValueError.__init__"))) (lEE5_ : K.lookup fE5_ = some ⟨ocE5_, odE5_, .func (PySem.W.ksFn "__init__" "BadRegister.__init__" (defArgs sE5) (defBody sE5) (defScope sE5) .none .none dcE5_ pmE5_ anE5_ (.ref cdaE5_) ctE5_ ccE5_), slE5_⟩) (cEE5_ : PySem.W.codeIn K (.ref cdaE5_) "BadRegister.__init__" = true) (dEE5_ : K.lookup cdaE5_ = some ⟨cclE5_, cddE5_, .fields vsE5_, ccsE5_⟩) (wEE5_ : vsE5_[2]? = some (.str fileE5_ tfE5_)) (oEE5_ : ((l.prog.main.file : Str) == fileE5_) = true) (qEE5_ : K.lookup ccE5_ = some ⟨clE5_, cldE5_, .cell (some (.ref CE5_)), cslE5_⟩) (jEE5_ : PySem.W.subIn K (.ref CE5_) (.ref CJ) = some true) (bEE5_1 : PySem.W.findIn K (.ref CE5_) "__class__" = some (some (.builtin "object.__class__"))) (bEE5_2 : PySem.W.specialIn K (.builtin "object.__class__") "__get__" = some (some (.builtin "getset_descriptor.__get__"))) (bEE5_3 : PySem.W.takesIn K (.builtin "object.__class__") = some true) (bEE5_4 : PySem.W.mroIn K CE5_ (.type "object") = some true)
    {snE6_ : List Str} {abE6_ : Bool} {colE6_ : Option Bool} {m0E6_ m1E6_ m2E6_ m3E6_ m5E6_ : Option Value} {vsE6_ : Array Value}
    (aEE6_ : PySem.W.nsIn K mainGlobals "BadState" = some (some (.ref CE6_))) (xEE6_ : K.lookup CE6_ = some (excClassObj nmE6_ qE6_ CE6_ NE6_ bsE6_ [.ref CJ, .type "ValueError", .type "Exception", .type "BaseException", .type "object"] true snE6_ subE6_ abE6_ colE6_ ddE6_ m0E6_ m1E6_ m2E6_ m3E6_ m5E6_ "ValueError.__new__")) (saEE6_ : PySem.W.findIn K (.ref CE6_) "__setattr__" = some (some (.builtin "object.__setattr__"))) (gEE6_1 : PySem.W.findIn K (.ref CE6_) "__getattribute__" = some (some (.builtin "BaseException.__getattribute__"))) (gEE6_2 : PySem.W.findIn K (.ref CE6_) "__getattr__" = some none) (nEE6_ : PySem.W.findIn K (.ref CE6_) "state" = some none) (iEE6_ : PySem.W.findIn K (.ref CE6_) "__init__" = some (some (.ref fE6_))) (tEE6_ : PySem.W.typeIn K (.ref fE6_) = some (.type "function")) (kEE6_ : PySem.W.keepIn K (.ref CE6_) = true) (eEE6_ : PySem.W.subIn K (.ref CE6_) (.type "BaseException") = some true) (vEE6_ : PySem.W.subIn K (.ref CE6_) (.type "ValueError") = some true) (yEE6_ : PySem.W.typeIn K (.ref CE6_) = some (.type "type")) (hEE6_ : PySem.W.hasDictIn K CE6_ = true) (rEE6_ : PySem.W.mroIn K CE6_ (.ref CE6_) = some true) (uEE6_ : PySem.W.ks_superIn K CE6_ CE6_ "__init__" = some (some (.builtin "ValueError.__init__"))) (lEE6_ : K.lookup fE6_ = some ⟨ocE6_, odE6_, .func (PySem.W.ksFn "__init__" "BadState.__init__" (defArgs sE6) (defBody sE6) (defScope sE6) .none .none dcE6_ pmE6_ anE6_ (.ref cdaE6_) ctE6_ ccE6_), slE6_⟩) (cEE6_ : PySem.W.codeIn K (.ref cdaE6_) "BadState.__init__" = true) (dEE6_ : K.lookup cdaE6_ = some ⟨cclE6_, cddE6_, .fields vsE6_, ccsE6_⟩) (wEE6_ : vsE6_[2]? = some (.str fileE6_ tfE6_)) (oEE6_ : ((l.prog.main.file : Str) == fileE6_) = true) (qEE6_ : K.lookup ccE6_ = some ⟨clE6_, cldE6_, .cell (some (.ref CE6_)), cslE6_⟩) (jEE6_ : PySem.W.subIn K (.ref CE6_) (.ref CJ) = some true) (bEE6_1 : PySem.W.findIn K (.ref CE6_) "__class__" = some (some (.builtin "object.__class__"))) (bEE6_2 : PySem.W.specialIn K (.builtin "object.__class__") "__get__" = some (some (.builtin "getset_descriptor.__get__"))) (bEE6_3 : PySem.W.takesIn K (.builtin "object.__class__") = some true) (bEE6_4 : PySem.W.mroIn K CE6_ (.type "object") = some true)
    {snE7_ : List Str} {abE7_ : Bool} {colE7_ : Option Bool} {m0E7_ m1E7_ m2E7_ m3E7_ m5E7_ : Option Value} {vsE7_ : Array Value}
    (aEE7_ : PySem.W.nsIn K mainGlobals "BadText" = some (some (.ref CE7_))) (xEE7_ : K.lookup CE7_ = some (excClassObj nmE7_ qE7_ CE7_ NE7_ bsE7_ [.ref CJ, .type "ValueError", .type "Exception", .type "BaseException", .type "object"] true snE7_ subE7_ abE7_ colE7_ ddE7_ m0E7_ m1E7_ m2E7_ m3E7_ m5E7_ "ValueError.__new__")) (saEE7_ : PySem.W.findIn K (.ref CE7_) "__setattr__" = some (some (.builtin "object.__setattr__"))) (gEE7_1 : PySem.W.findIn K (.ref CE7_) "__getattribute__" = some (some (.builtin "BaseException.__getattribute__"))) (gEE7_2 : PySem.W.findIn K (.ref CE7_) "__getattr__" = some none) (nEE7_ : PySem.W.findIn K (.ref CE7_) "line" = some none) (iEE7_ : PySem.W.findIn K (.ref CE7_) "__init__" = some (some (.ref fE7_))) (tEE7_ : PySem.W.typeIn K (.ref fE7_) = some (.type "function")) (kEE7_ : PySem.W.keepIn K (.ref CE7_) = true) (eEE7_ : PySem.W.subIn K (.ref CE7_) (.type "BaseException") = some true) (vEE7_ : PySem.W.subIn K (.ref CE7_) (.type "ValueError") = some true) (yEE7_ : PySem.W.typeIn K (.ref CE7_) = some (.type "type")) (hEE7_ : PySem.W.hasDictIn K CE7_ = true) (rEE7_ : PySem.W.mroIn K CE7_ (.ref CE7_) = some true) (uEE7_ : PySem.W.ks_superIn K CE7_ CE7_ "__init__" = some (some (.builtin "ValueError.__init__"))) (lEE7_ : K.lookup fE7_ = some ⟨ocE7_, odE7_, .func (PySem.W.ksFn "__init__" "BadText.__init__" (defArgs sE7) (defBody sE7) (defScope sE7) .none .none dcE7_ pmE7_ anE7_ (.ref cdaE7_) ctE7_ ccE7_), slE7_⟩) (cEE7_ : PySem.W.codeIn K (.ref cdaE7_) "BadText.__init__" = true) (dEE7_ : K.lookup cdaE7_ = some ⟨cclE7_, cddE7_, .fields vsE7_, ccsE7_⟩) (wEE7_ : vsE7_[2]? = some (.str fileE7_ tfE7_)) (oEE7_ : ((l.prog.main.file : Str) == fileE7_) = true) (qEE7_ : K.lookup ccE7_ = some ⟨clE7_, cldE7_, .cell (some (.ref CE7_)), cslE7_⟩) (jEE7_ : PySem.W.subIn K (.ref CE7_) (.ref CJ) = some true) (bEE7_1 : PySem.W.findIn K (.ref CE7_) "__class__" = some (some (.builtin "object.__class__"))) (bEE7_2 : PySem.W.specialIn K (.builtin "object.__class__") "__get__" = some (some (.builtin "getset_descriptor.__get__"))) (bEE7_3 : PySem.W.takesIn K (.builtin "object.__class__") = some true) (bEE7_4 : PySem.W.mroIn K CE7_ (.type "object") = some true)
    {snE8_ : List Str} {abE8_ : Bool} {colE8_ : Option Bool} {m0E8_ m1E8_ m2E8_ m3E8_ m5E8_ : Option Value} {vsE8_ : Array Value}
    (aEE8_ : PySem.W.nsIn K mainGlobals "BadCommand" = some (some (.ref CE8_))) (xEE8_ : K.lookup CE8_ = some (excClassObj nmE8_ qE8_ CE8_ NE8_ bsE8_ [.ref CJ, .type "ValueError", .type "Exception", .type "BaseException", .type "object"] true snE8_ subE8_ abE8_ colE8_ ddE8_ m0E8_ m1E8_ m2E8_ m3E8_ m5E8_ "ValueError.__new__")) (saEE8_ : PySem.W.findIn K (.ref CE8_) "__setattr__" = some (some (.builtin "object.__setattr__"))) (gEE8_1 : PySem.W.findIn K (.ref CE8_) "__getattribute__" = some (some (.builtin "BaseException.__getattribute__"))) (gEE8_2 : PySem.W.findIn K (.ref CE8_) "__getattr__" = some none) (nEE8_ : PySem.W.findIn K (.ref CE8_) "command" = some none) (iEE8_ : PySem.W.findIn K (.ref CE8_) "__init__" = some (some (.ref fE8_))) (tEE8_ : PySem.W.typeIn K (.ref fE8_) = some (.type "function")) (kEE8_ : PySem.W.keepIn K (.ref CE8_) = true) (eEE8_ : PySem.W.subIn K (.ref CE8_) (.type "BaseException") = some true) (vEE8_ : PySem.W.subIn K (.ref CE8_) (.type "ValueError") = some true) (yEE8_ : PySem.W.typeIn K (.ref CE8_) = some (.type "type")) (hEE8_ : PySem.W.hasDictIn K CE8_ = true) (rEE8_ : PySem.W.mroIn K CE8_ (.ref CE8_) = some true) (uEE8_ : PySem.W.ks_superIn K CE8_ CE8_ "__init__" = some (some (.builtin "ValueError.__init__"))) (lEE8_ : K.lookup fE8_ = some ⟨ocE8_, odE8_, .func (PySem.W.ksFn "__init__" "BadCommand.__init__" (defArgs sE8) (defBody sE8) (defScope sE8) .none .none dcE8_ pmE8_ anE8_ (.ref cdaE8_) ctE8_ ccE8_), slE8_⟩) (cEE8_ : PySem.W.codeIn K (.ref cdaE8_) "BadCommand.__init__" = true) (dEE8_ : K.lookup cdaE8_ = some ⟨cclE8_, cddE8_, .fields vsE8_, ccsE8_⟩) (wEE8_ : vsE8_[2]? = some (.str fileE8_ tfE8_)) (oEE8_ : ((l.prog.main.file : Str) == fileE8_) = true) (qEE8_ : K.lookup ccE8_ = some ⟨clE8_, cldE8_, .cell (some (.ref CE8_)), cslE8_⟩) (jEE8_ : PySem.W.subIn K (.ref CE8_) (.ref CJ) = some true) (bEE8_1 : PySem.W.findIn K (.ref CE8_) "__class__" = some (some (.builtin "object.__class__"))) (bEE8_2 : PySem.W.specialIn K (.builtin "object.__class__") "__get__" = some (some (.builtin "getset_descriptor.__get__"))) (bEE8_3 : PySem.W.takesIn K (.builtin "object.__class__") = some true) (bEE8_4 : PySem.W.mroIn K CE8_ (.type "object") = some true)
    {snE9_ : List Str} {abE9_ : Bool} {colE9_ : Option Bool} {m0E9_ m1E9_ m2E9_ m3E9_ m5E9_ : Option Value} {vsE9_ : Array Value}
    (aEE9_ : PySem.W.nsIn K mainGlobals "TooLong" = some (some (.ref CE9_))) (xEE9_ : K.lookup CE9_ = some (excClassObj nmE9_ qE9_ CE9_ NE9_ bsE9_ [.ref CJ, .type "ValueError", .type "Exception", .type "BaseException", .type "object"] true snE9_ subE9_ abE9_ colE9_ ddE9_ m0E9_ m1E9_ m2E9_ m3E9_ m5E9_ "ValueError.__new__")) (saEE9_ : PySem.W.findIn K (.ref CE9_) "__setattr__" = some (some (.builtin "object.__setattr__"))) (gEE9_1 : PySem.W.findIn K (.ref CE9_) "__getattribute__" = some (some (.builtin "BaseException.__getattribute__"))) (gEE9_2 : PySem.W.findIn K (.ref CE9_) "__getattr__" = some none) (nEE9_ : PySem.W.findIn K (.ref CE9_) "size" = some none) (iEE9_ : PySem.W.findIn K (.ref CE9_) "__init__" = some (some (.ref fE9_))) (tEE9_ : PySem.W.typeIn K (.ref fE9_) = some (.type "function")) (kEE9_ : PySem.W.keepIn K (.ref CE9_) = true) (eEE9_ : PySem.W.subIn K (.ref CE9_) (.type "BaseException") = some true) (vEE9_ : PySem.W.subIn K (.ref CE9_) (.type "ValueError") = some true) (yEE9_ : PySem.W.typeIn K (.ref CE9_) = some (.type "type")) (hEE9_ : PySem.W.hasDictIn K CE9_ = true) (rEE9_ : PySem.W.mroIn K CE9_ (.ref CE9_) = some true) (uEE9_ : PySem.W.ks_superIn K CE9_ CE9_ "__init__" = some (some (.builtin "ValueError.__init__"))) (lEE9_ : K.lookup fE9_ = some ⟨ocE9_, odE9_, .func (PySem.W.ksFn "__init__" "TooLong.__init__" (defArgs sE9) (defBody sE9) (defScope sE9) .none .none dcE9_ pmE9_ anE9_ (.ref cdaE9_) ctE9_ ccE9_), slE9_⟩) (cEE9_ : PySem.W.codeIn K (.ref cdaE9_) "TooLong.__init__" = true) (dEE9_ : K.lookup cdaE9_ = some ⟨cclE9_, cddE9_, .fields vsE9_, ccsE9_⟩) (wEE9_ : vsE9_[2]? = some (.str fileE9_ tfE9_)) (oEE9_ : ((l.prog.main.file : Str) == fileE9_) = true) (qEE9_ : K.lookup ccE9_ = some ⟨clE9_, cldE9_, .cell (some (.ref CE9_)), cslE9_⟩) (jEE9_ : PySem.W.subIn K (.ref CE9_) (.ref CJ) = some true) (bEE9_1 : PySem.W.findIn K (.ref CE9_) "__class__" = some (some (.builtin "object.__class__"))) (bEE9_2 : PySem.W.specialIn K (.builtin "object.__class__") "__get__" = some (some (.builtin "getset_descriptor.__get__"))) (bEE9_3 : PySem.W.takesIn K (.builtin "object.__class__") = some true) (bEE9_4 : PySem.W.mroIn K CE9_ (.type "object") = some true)
    {snE10_ : List Str} {abE10_ : Bool} {colE10_ : Option Bool} {m0E10_ m1E10_ m2E10_ m3E10_ m5E10_ : Option Value} {vsE10_ : Array Value}
    (aEE10_ : PySem.W.nsIn K mainGlobals "TooDeep" = some (some (.ref CE10_))) (xEE10_ : K.lookup CE10_ = some (excClassObj nmE10_ qE10_ CE10_ NE10_ bsE10_ [.ref CJ, .type "ValueError", .type "Exception", .type "BaseException", .type "object"] true snE10_ subE10_ abE10_ colE10_ ddE10_ m0E10_ m1E10_ m2E10_ m3E10_ m5E10_ "ValueError.__new__")) (saEE10_ : PySem.W.findIn K (.ref CE10_) "__setattr__" = some (some (.builtin "object.__setattr__"))) (gEE10_1 : PySem.W.findIn K (.ref CE10_) "__getattribute__" = some (some (.builtin "BaseException.__getattribute__"))) (gEE10_2 : PySem.W.findIn K (.ref CE10_) "__getattr__" = some none) (nEE10_ : PySem.W.findIn K (.ref CE10_) "depth" = some none) (iEE10_ : PySem.W.findIn K (.ref CE10_) "__init__" = some (some (.ref fE10_))) (tEE10_ : PySem.W.typeIn K (.ref fE10_) = some (.type "function")) (kEE10_ : PySem.W.keepIn K (.ref CE10_) = true) (eEE10_ : PySem.W.subIn K (.ref CE10_) (.type "BaseException") = some true) (vEE10_ : PySem.W.subIn K (.ref CE10_) (.type "ValueError") = some true) (yEE10_ : PySem.W.typeIn K (.ref CE10_) = some (.type "type")) (hEE10_ : PySem.W.hasDictIn K CE10_ = true) (rEE10_ : PySem.W.mroIn K CE10_ (.ref CE10_) = some true) (uEE10_ : PySem.W.ks_superIn K CE10_ CE10_ "__init__" = some (some (.builtin "ValueError.__init__"))) (lEE10_ : K.lookup fE10_ = some ⟨ocE10_, odE10_, .func (PySem.W.ksFn "__init__" "TooDeep.__init__" (defArgs sE10) (defBody sE10) (defScope sE10) .none .none dcE10_ pmE10_ anE10_ (.ref cdaE10_) ctE10_ ccE10_), slE10_⟩) (cEE10_ : PySem.W.codeIn K (.ref cdaE10_) "TooDeep.__init__" = true) (dEE10_ : K.lookup cdaE10_ = some ⟨cclE10_, cddE10_, .fields vsE10_, ccsE10_⟩) (wEE10_ : vsE10_[2]? = some (.str fileE10_ tfE10_)) (oEE10_ : ((l.prog.main.file : Str) == fileE10_) = true) (qEE10_ : K.lookup ccE10_ = some ⟨clE10_, cldE10_, .cell (some (.ref CE10_)), cslE10_⟩) (jEE10_ : PySem.W.subIn K (.ref CE10_) (.ref CJ) = some true) (bEE10_1 : PySem.W.findIn K (.ref CE10_) "__class__" = some (some (.builtin "object.__class__"))) (bEE10_2 : PySem.W.specialIn K (.builtin "object.__class__") "__get__" = some (some (.builtin "getset_descriptor.__get__"))) (bEE10_3 : PySem.W.takesIn K (.builtin "object.__class__") = some true) (bEE10_4 : PySem.W.mroIn K CE10_ (.type "object") = some true)
    (xx11 : PySem.W.excIn K CE11_ [.type "ValueError", .type "Exception", .type "BaseException", .type "object"] "ValueError.__new__" = true)
    (xx12 : PySem.W.excIn K CE12_ [.type "ValueError", .type "Exception", .type "BaseException", .type "object"] "ValueError.__new__" = true)
    (xk11 : PySem.W.keepIn K (.ref CE11_) = true)
    (xk12 : PySem.W.keepIn K (.ref CE12_) = true)
    (kkk : kindsOk K [CE0_, CE1_, CE2_, CE3_, CE4_, CE5_, CE6_, CE7_, CE8_, CE9_, CE10_, CE11_, CE12_] = true)
    (kkJ : baseOk K (.ref CJ) true [CE0_, CE1_, CE2_, CE3_, CE4_, CE5_, CE6_, CE7_, CE8_, CE9_, CE10_, CE11_, CE12_] = true)
    (kkV : baseOk K (.type "ValueError") true [CE0_, CE1_, CE2_, CE3_, CE4_, CE5_, CE6_, CE7_, CE8_, CE9_, CE10_, CE11_, CE12_] = true)
    (kkL : baseOk K (.type "LookupError") false [CE0_, CE1_, CE2_, CE3_, CE4_, CE5_, CE6_, CE7_, CE8_, CE9_, CE10_, CE11_, CE12_] = true)
    (kka : ([CE0_, CE1_, CE2_, CE3_, CE4_, CE5_, CE6_, CE7_, CE8_, CE9_, CE10_, CE11_, CE12_]).all (askOk K) = true)
    : ∃ fd : FuncData, (∀ (s : Shared) (v : Value), BindsTo s fd ⟨[v], []⟩ [("_law_script", v)]) ∧ ∀ base : Heap, K.In base → base.Ns mainGlobals mg → FnG l.prog w K mg base 3 fa fd ["_law_script"] (spLaw K) := by
  have FUrn := fun_mk (st := sUrn) l0 c0 k0
  have AUrn : At K mg "_law_urn" sUrn ["_law_script", "_law_k"] := ⟨_, _, FUrn, FUrn.binds (ps := ["_law_script", "_law_k"]) fun _ _ _ _ _ _ us hl => match us, hl with | [_, _], _ => rfl, PySem.W.mg_of X G a0⟩
  have FTake := fun_mk (st := sTake) l1 c1 k1
  have ATake : At K mg "_law_take" sTake ["_law_urn_here", "_law_below"] := ⟨_, _, FTake, FTake.binds (ps := ["_law_urn_here", "_law_below"]) fun _ _ _ _ _ _ us hl => match us, hl with | [_, _], _ => rfl, PySem.W.mg_of X G a1⟩
  have FOf := fun_mk (st := sOf) l2 c2 k2
  have AOf : At K mg "_law_of" sOf ["_law_urn_here", "_law_items"] := ⟨_, _, FOf, FOf.binds (ps := ["_law_urn_here", "_law_items"]) fun _ _ _ _ _ _ us hl => match us, hl with | [_, _], _ => rfl, PySem.W.mg_of X G a2⟩
  have FMade := fun_mk (st := sMade) l3 c3 k3
  have AMade : At K mg "_law_made" sMade ["_law_thing"] := ⟨_, _, FMade, FMade.binds (ps := ["_law_thing"]) fun _ _ _ _ _ _ us hl => match us, hl with | [_], _ => rfl, PySem.W.mg_of X G a3⟩
  have FNamed := fun_mk (st := sNamed) l4 c4 k4
  have ANamed : At K mg "_law_named" sNamed ["_law_held"] := ⟨_, _, FNamed, FNamed.binds (ps := ["_law_held"]) fun _ _ _ _ _ _ us hl => match us, hl with | [_], _ => rfl, PySem.W.mg_of X G a4⟩
  have FKinds := fun_mk (st := sKinds) l5 c5 k5
  have AKinds : At K mg "_law_kinds" sKinds ["_law_one"] := ⟨_, _, FKinds, FKinds.binds (ps := ["_law_one"]) fun _ _ _ _ _ _ us hl => match us, hl with | [_], _ => rfl, PySem.W.mg_of X G a5⟩
  have FValues := fun_mk (st := sValues) l6 c6 k6
  have AValues : At K mg "_law_values" sValues ["_law_some"] := ⟨_, _, FValues, FValues.binds (ps := ["_law_some"]) fun _ _ _ _ _ _ us hl => match us, hl with | [_], _ => rfl, PySem.W.mg_of X G a6⟩
  have FRight := fun_mk (st := sRight) l7 c7 k7
  have ARight : At K mg "_law_right" sRight ["_law_held"] := ⟨_, _, FRight, FRight.binds (ps := ["_law_held"]) fun _ _ _ _ _ _ us hl => match us, hl with | [_], _ => rfl, PySem.W.mg_of X G a7⟩
  have FLaw := fun_mk (st := sLaw) l8 c8 k8
  have ALaw : At K mg "law" sLaw ["_law_script"] := ⟨_, _, FLaw, FLaw.binds (ps := ["_law_script"]) fun _ _ _ _ _ _ us hl => match us, hl with | [_], _ => rfl, PySem.W.mg_of X G a8⟩
  have gEJ := PySem.W.mg_of X G aEJ
  have gSU := PySem.W.mg_none_of X G zsu
  have gVE := PySem.W.mg_none_of X G zve
  have gEE11_ := PySem.W.mg_of X G aEE11_
  have gEE12_ := PySem.W.mg_of X G aEE12_
  have gEE0_ := PySem.W.mg_of X G aEE0_
  rw [show defArgs sE0 = (eA "value" ⟨6, 17, 6, 21⟩ ⟨6, 23, 6, 28⟩) from rfl, show defBody sE0 = (eB "value" "not a prime from 2 to 10007" ⟨7, 8, 7, 13⟩ ⟨7, 8, 7, 15⟩ ⟨7, 8, 7, 24⟩ ⟨7, 25, 7, 54⟩ ⟨7, 8, 7, 55⟩ ⟨7, 8, 7, 55⟩ ⟨8, 8, 8, 12⟩ ⟨8, 8, 8, 18⟩ ⟨8, 21, 8, 26⟩ ⟨8, 8, 8, 26⟩) from rfl, show defScope sE0 = eS "value" from rfl] at lEE0_
  have TE0_ : ErrTxt l.prog K mg "BadField" "value" CE0_ fE0_ := { nm := nm_value, gC := gEE0_, cls := ⟨_, _, _, _, _, _, _, _, _, _, _, _, _, _, _, xEE0_, (by show PySem.HandSPX.refsVE [.type "ValueError", .type "Exception", .type "BaseException", .type "object"] = true; decide +kernel)⟩, sa := saEE0_, ga := gEE0_1, gg := gEE0_2, noN := nEE0_, iC := iEE0_, tC := tEE0_, kC := kEE0_, exC := eEE0_, veC := vEE0_, tyC := yEE0_, hdC := hEE0_, mrC := rEE0_, suC := uEE0_, op := zop, gS := gSU, top := ztp, fn := ⟨_, _, _, _, _, _, _, _, _, _, _, _, _, _, _, _, _, _, _, _, _, _, _, _, _, _, _, _, _, _, _, _, lEE0_, cEE0_, dEE0_, wEE0_, oEE0_, by decide, qEE0_⟩ }
  have BE0_ : PySem.W.exmOne K (.ref CE0_) (.ref CJ) = some true := PySem.W.exm_ref eEJ hEJ yEJ jEE0_
  have XE0_ : ExcC K CE0_ := ⟨gEE0_1, gEE0_2, eEE0_, hEE0_, bEE0_1, bEE0_2, bEE0_3, bEE0_4⟩
  have gEE1_ := PySem.W.mg_of X G aEE1_
  rw [show defArgs sE1 = (eA "value" ⟨11, 17, 11, 21⟩ ⟨11, 23, 11, 28⟩) from rfl, show defBody sE1 = (eB "value" "not a tuple of 1 to 8 field elements" ⟨12, 8, 12, 13⟩ ⟨12, 8, 12, 15⟩ ⟨12, 8, 12, 24⟩ ⟨12, 25, 12, 63⟩ ⟨12, 8, 12, 64⟩ ⟨12, 8, 12, 64⟩ ⟨13, 8, 13, 12⟩ ⟨13, 8, 13, 18⟩ ⟨13, 21, 13, 26⟩ ⟨13, 8, 13, 26⟩) from rfl, show defScope sE1 = eS "value" from rfl] at lEE1_
  have TE1_ : ErrTxt l.prog K mg "BadRegisters" "value" CE1_ fE1_ := { nm := nm_value, gC := gEE1_, cls := ⟨_, _, _, _, _, _, _, _, _, _, _, _, _, _, _, xEE1_, (by show PySem.HandSPX.refsVE [.type "ValueError", .type "Exception", .type "BaseException", .type "object"] = true; decide +kernel)⟩, sa := saEE1_, ga := gEE1_1, gg := gEE1_2, noN := nEE1_, iC := iEE1_, tC := tEE1_, kC := kEE1_, exC := eEE1_, veC := vEE1_, tyC := yEE1_, hdC := hEE1_, mrC := rEE1_, suC := uEE1_, op := zop, gS := gSU, top := ztp, fn := ⟨_, _, _, _, _, _, _, _, _, _, _, _, _, _, _, _, _, _, _, _, _, _, _, _, _, _, _, _, _, _, _, _, lEE1_, cEE1_, dEE1_, wEE1_, oEE1_, by decide, qEE1_⟩ }
  have BE1_ : PySem.W.exmOne K (.ref CE1_) (.ref CJ) = some true := PySem.W.exm_ref eEJ hEJ yEJ jEE1_
  have XE1_ : ExcC K CE1_ := ⟨gEE1_1, gEE1_2, eEE1_, hEE1_, bEE1_1, bEE1_2, bEE1_3, bEE1_4⟩
  have gEE2_ := PySem.W.mg_of X G aEE2_
  rw [show defArgs sE2 = (eA "value" ⟨16, 17, 16, 21⟩ ⟨16, 23, 16, 28⟩) from rfl, show defBody sE2 = (eB "value" "not a program for this field and these registers" ⟨17, 8, 17, 13⟩ ⟨17, 8, 17, 15⟩ ⟨17, 8, 17, 24⟩ ⟨17, 25, 17, 75⟩ ⟨17, 8, 17, 76⟩ ⟨17, 8, 17, 76⟩ ⟨18, 8, 18, 12⟩ ⟨18, 8, 18, 18⟩ ⟨18, 21, 18, 26⟩ ⟨18, 8, 18, 26⟩) from rfl, show defScope sE2 = eS "value" from rfl] at lEE2_
  have TE2_ : ErrTxt l.prog K mg "BadProgram" "value" CE2_ fE2_ := { nm := nm_value, gC := gEE2_, cls := ⟨_, _, _, _, _, _, _, _, _, _, _, _, _, _, _, xEE2_, (by show PySem.HandSPX.refsVE [.type "ValueError", .type "Exception", .type "BaseException", .type "object"] = true; decide +kernel)⟩, sa := saEE2_, ga := gEE2_1, gg := gEE2_2, noN := nEE2_, iC := iEE2_, tC := tEE2_, kC := kEE2_, exC := eEE2_, veC := vEE2_, tyC := yEE2_, hdC := hEE2_, mrC := rEE2_, suC := uEE2_, op := zop, gS := gSU, top := ztp, fn := ⟨_, _, _, _, _, _, _, _, _, _, _, _, _, _, _, _, _, _, _, _, _, _, _, _, _, _, _, _, _, _, _, _, lEE2_, cEE2_, dEE2_, wEE2_, oEE2_, by decide, qEE2_⟩ }
  have BE2_ : PySem.W.exmOne K (.ref CE2_) (.ref CJ) = some true := PySem.W.exm_ref eEJ hEJ yEJ jEE2_
  have XE2_ : ExcC K CE2_ := ⟨gEE2_1, gEE2_2, eEE2_, hEE2_, bEE2_1, bEE2_2, bEE2_3, bEE2_4⟩
  have gEE3_ := PySem.W.mg_of X G aEE3_
  rw [show defArgs sE3 = (eA "value" ⟨21, 17, 21, 21⟩ ⟨21, 23, 21, 28⟩) from rfl, show defBody sE3 = (eB "value" "not a tuple of as many field elements as are read" ⟨22, 8, 22, 13⟩ ⟨22, 8, 22, 15⟩ ⟨22, 8, 22, 24⟩ ⟨22, 25, 22, 76⟩ ⟨22, 8, 22, 77⟩ ⟨22, 8, 22, 77⟩ ⟨23, 8, 23, 12⟩ ⟨23, 8, 23, 18⟩ ⟨23, 21, 23, 26⟩ ⟨23, 8, 23, 26⟩) from rfl, show defScope sE3 = eS "value" from rfl] at lEE3_
  have TE3_ : ErrTxt l.prog K mg "BadInputs" "value" CE3_ fE3_ := { nm := nm_value, gC := gEE3_, cls := ⟨_, _, _, _, _, _, _, _, _, _, _, _, _, _, _, xEE3_, (by show PySem.HandSPX.refsVE [.type "ValueError", .type "Exception", .type "BaseException", .type "object"] = true; decide +kernel)⟩, sa := saEE3_, ga := gEE3_1, gg := gEE3_2, noN := nEE3_, iC := iEE3_, tC := tEE3_, kC := kEE3_, exC := eEE3_, veC := vEE3_, tyC := yEE3_, hdC := hEE3_, mrC := rEE3_, suC := uEE3_, op := zop, gS := gSU, top := ztp, fn := ⟨_, _, _, _, _, _, _, _, _, _, _, _, _, _, _, _, _, _, _, _, _, _, _, _, _, _, _, _, _, _, _, _, lEE3_, cEE3_, dEE3_, wEE3_, oEE3_, by decide, qEE3_⟩ }
  have BE3_ : PySem.W.exmOne K (.ref CE3_) (.ref CJ) = some true := PySem.W.exm_ref eEJ hEJ yEJ jEE3_
  have XE3_ : ExcC K CE3_ := ⟨gEE3_1, gEE3_2, eEE3_, hEE3_, bEE3_1, bEE3_2, bEE3_3, bEE3_4⟩
  have gEE4_ := PySem.W.mg_of X G aEE4_
  rw [show defArgs sE4 = (eA "moment" ⟨26, 17, 26, 21⟩ ⟨26, 23, 26, 29⟩) from rfl, show defBody sE4 = (eB "moment" "no such moment or step" ⟨27, 8, 27, 13⟩ ⟨27, 8, 27, 15⟩ ⟨27, 8, 27, 24⟩ ⟨27, 25, 27, 49⟩ ⟨27, 8, 27, 50⟩ ⟨27, 8, 27, 50⟩ ⟨28, 8, 28, 12⟩ ⟨28, 8, 28, 19⟩ ⟨28, 22, 28, 28⟩ ⟨28, 8, 28, 28⟩) from rfl, show defScope sE4 = eS "moment" from rfl] at lEE4_
  have TE4_ : ErrTxt l.prog K mg "BadMoment" "moment" CE4_ fE4_ := { nm := nm_moment, gC := gEE4_, cls := ⟨_, _, _, _, _, _, _, _, _, _, _, _, _, _, _, xEE4_, (by show PySem.HandSPX.refsVE [.type "ValueError", .type "Exception", .type "BaseException", .type "object"] = true; decide +kernel)⟩, sa := saEE4_, ga := gEE4_1, gg := gEE4_2, noN := nEE4_, iC := iEE4_, tC := tEE4_, kC := kEE4_, exC := eEE4_, veC := vEE4_, tyC := yEE4_, hdC := hEE4_, mrC := rEE4_, suC := uEE4_, op := zop, gS := gSU, top := ztp, fn := ⟨_, _, _, _, _, _, _, _, _, _, _, _, _, _, _, _, _, _, _, _, _, _, _, _, _, _, _, _, _, _, _, _, lEE4_, cEE4_, dEE4_, wEE4_, oEE4_, by decide, qEE4_⟩ }
  have BE4_ : PySem.W.exmOne K (.ref CE4_) (.ref CJ) = some true := PySem.W.exm_ref eEJ hEJ yEJ jEE4_
  have XE4_ : ExcC K CE4_ := ⟨gEE4_1, gEE4_2, eEE4_, hEE4_, bEE4_1, bEE4_2, bEE4_3, bEE4_4⟩
  have gEE5_ := PySem.W.mg_of X G aEE5_
  rw [show defArgs sE5 = (eA "x" ⟨31, 17, 31, 21⟩ ⟨31, 23, 31, 24⟩) from rfl, show defBody sE5 = (eB "x" "no such register" ⟨32, 8, 32, 13⟩ ⟨32, 8, 32, 15⟩ ⟨32, 8, 32, 24⟩ ⟨32, 25, 32, 43⟩ ⟨32, 8, 32, 44⟩ ⟨32, 8, 32, 44⟩ ⟨33, 8, 33, 12⟩ ⟨33, 8, 33, 14⟩ ⟨33, 17, 33, 18⟩ ⟨33, 8, 33, 18⟩) from rfl, show defScope sE5 = eS "x" from rfl] at lEE5_
  have TE5_ : ErrTxt l.prog K mg "BadRegister" "x" CE5_ fE5_ := { nm := nm_x, gC := gEE5_, cls := ⟨_, _, _, _, _, _, _, _, _, _, _, _, _, _, _, xEE5_, (by show PySem.HandSPX.refsVE [.type "ValueError", .type "Exception", .type "BaseException", .type "object"] = true; decide +kernel)⟩, sa := saEE5_, ga := gEE5_1, gg := gEE5_2, noN := nEE5_, iC := iEE5_, tC := tEE5_, kC := kEE5_, exC := eEE5_, veC := vEE5_, tyC := yEE5_, hdC := hEE5_, mrC := rEE5_, suC := uEE5_, op := zop, gS := gSU, top := ztp, fn := ⟨_, _, _, _, _, _, _, _, _, _, _, _, _, _, _, _, _, _, _, _, _, _, _, _, _, _, _, _, _, _, _, _, lEE5_, cEE5_, dEE5_, wEE5_, oEE5_, by decide, qEE5_⟩ }
  have BE5_ : PySem.W.exmOne K (.ref CE5_) (.ref CJ) = some true := PySem.W.exm_ref eEJ hEJ yEJ jEE5_
  have XE5_ : ExcC K CE5_ := ⟨gEE5_1, gEE5_2, eEE5_, hEE5_, bEE5_1, bEE5_2, bEE5_3, bEE5_4⟩
  have gEE6_ := PySem.W.mg_of X G aEE6_
  rw [show defArgs sE6 = (eA "state" ⟨36, 17, 36, 21⟩ ⟨36, 23, 36, 28⟩) from rfl, show defBody sE6 = (eB "state" "no machine with this program has this snapshot" ⟨37, 8, 37, 13⟩ ⟨37, 8, 37, 15⟩ ⟨37, 8, 37, 24⟩ ⟨37, 25, 37, 73⟩ ⟨37, 8, 37, 74⟩ ⟨37, 8, 37, 74⟩ ⟨38, 8, 38, 12⟩ ⟨38, 8, 38, 18⟩ ⟨38, 21, 38, 26⟩ ⟨38, 8, 38, 26⟩) from rfl, show defScope sE6 = eS "state" from rfl] at lEE6_
  have TE6_ : ErrTxt l.prog K mg "BadState" "state" CE6_ fE6_ := { nm := nm_state, gC := gEE6_, cls := ⟨_, _, _, _, _, _, _, _, _, _, _, _, _, _, _, xEE6_, (by show PySem.HandSPX.refsVE [.type "ValueError", .type "Exception", .type "BaseException", .type "object"] = true; decide +kernel)⟩, sa := saEE6_, ga := gEE6_1, gg := gEE6_2, noN := nEE6_, iC := iEE6_, tC := tEE6_, kC := kEE6_, exC := eEE6_, veC := vEE6_, tyC := yEE6_, hdC := hEE6_, mrC := rEE6_, suC := uEE6_, op := zop, gS := gSU, top := ztp, fn := ⟨_, _, _, _, _, _, _, _, _, _, _, _, _, _, _, _, _, _, _, _, _, _, _, _, _, _, _, _, _, _, _, _, lEE6_, cEE6_, dEE6_, wEE6_, oEE6_, by decide, qEE6_⟩ }
  have BE6_ : PySem.W.exmOne K (.ref CE6_) (.ref CJ) = some true := PySem.W.exm_ref eEJ hEJ yEJ jEE6_
  have XE6_ : ExcC K CE6_ := ⟨gEE6_1, gEE6_2, eEE6_, hEE6_, bEE6_1, bEE6_2, bEE6_3, bEE6_4⟩
  have gEE7_ := PySem.W.mg_of X G aEE7_
  rw [show defArgs sE7 = (eA "line" ⟨41, 17, 41, 21⟩ ⟨41, 23, 41, 27⟩) from rfl, show defBody sE7 = (eB "line" "not the text of a program" ⟨42, 8, 42, 13⟩ ⟨42, 8, 42, 15⟩ ⟨42, 8, 42, 24⟩ ⟨42, 25, 42, 52⟩ ⟨42, 8, 42, 53⟩ ⟨42, 8, 42, 53⟩ ⟨43, 8, 43, 12⟩ ⟨43, 8, 43, 17⟩ ⟨43, 20, 43, 24⟩ ⟨43, 8, 43, 24⟩) from rfl, show defScope sE7 = eS "line" from rfl] at lEE7_
  have TE7_ : ErrTxt l.prog K mg "BadText" "line" CE7_ fE7_ := { nm := nm_line, gC := gEE7_, cls := ⟨_, _, _, _, _, _, _, _, _, _, _, _, _, _, _, xEE7_, (by show PySem.HandSPX.refsVE [.type "ValueError", .type "Exception", .type "BaseException", .type "object"] = true; decide +kernel)⟩, sa := saEE7_, ga := gEE7_1, gg := gEE7_2, noN := nEE7_, iC := iEE7_, tC := tEE7_, kC := kEE7_, exC := eEE7_, veC := vEE7_, tyC := yEE7_, hdC := hEE7_, mrC := rEE7_, suC := uEE7_, op := zop, gS := gSU, top := ztp, fn := ⟨_, _, _, _, _, _, _, _, _, _, _, _, _, _, _, _, _, _, _, _, _, _, _, _, _, _, _, _, _, _, _, _, lEE7_, cEE7_, dEE7_, wEE7_, oEE7_, by decide, qEE7_⟩ }
  have BE7_ : PySem.W.exmOne K (.ref CE7_) (.ref CJ) = some true := PySem.W.exm_ref eEJ hEJ yEJ jEE7_
  have XE7_ : ExcC K CE7_ := ⟨gEE7_1, gEE7_2, eEE7_, hEE7_, bEE7_1, bEE7_2, bEE7_3, bEE7_4⟩
  have gEE8_ := PySem.W.mg_of X G aEE8_
  rw [show defArgs sE8 = (eA "command" ⟨46, 17, 46, 21⟩ ⟨46, 23, 46, 30⟩) from rfl, show defBody sE8 = (eB "command" "no such command" ⟨47, 8, 47, 13⟩ ⟨47, 8, 47, 15⟩ ⟨47, 8, 47, 24⟩ ⟨47, 25, 47, 42⟩ ⟨47, 8, 47, 43⟩ ⟨47, 8, 47, 43⟩ ⟨48, 8, 48, 12⟩ ⟨48, 8, 48, 20⟩ ⟨48, 23, 48, 30⟩ ⟨48, 8, 48, 30⟩) from rfl, show defScope sE8 = eS "command" from rfl] at lEE8_
  have TE8_ : ErrTxt l.prog K mg "BadCommand" "command" CE8_ fE8_ := { nm := nm_command, gC := gEE8_, cls := ⟨_, _, _, _, _, _, _, _, _, _, _, _, _, _, _, xEE8_, (by show PySem.HandSPX.refsVE [.type "ValueError", .type "Exception", .type "BaseException", .type "object"] = true; decide +kernel)⟩, sa := saEE8_, ga := gEE8_1, gg := gEE8_2, noN := nEE8_, iC := iEE8_, tC := tEE8_, kC := kEE8_, exC := eEE8_, veC := vEE8_, tyC := yEE8_, hdC := hEE8_, mrC := rEE8_, suC := uEE8_, op := zop, gS := gSU, top := ztp, fn := ⟨_, _, _, _, _, _, _, _, _, _, _, _, _, _, _, _, _, _, _, _, _, _, _, _, _, _, _, _, _, _, _, _, lEE8_, cEE8_, dEE8_, wEE8_, oEE8_, by decide, qEE8_⟩ }
  have BE8_ : PySem.W.exmOne K (.ref CE8_) (.ref CJ) = some true := PySem.W.exm_ref eEJ hEJ yEJ jEE8_
  have XE8_ : ExcC K CE8_ := ⟨gEE8_1, gEE8_2, eEE8_, hEE8_, bEE8_1, bEE8_2, bEE8_3, bEE8_4⟩
  have gEE9_ := PySem.W.mg_of X G aEE9_
  rw [show defArgs sE9 = (eA "size" ⟨51, 17, 51, 21⟩ ⟨51, 23, 51, 27⟩) from rfl, show defBody sE9 = (eB "size" "too many steps or instructions" ⟨52, 8, 52, 13⟩ ⟨52, 8, 52, 15⟩ ⟨52, 8, 52, 24⟩ ⟨52, 25, 52, 57⟩ ⟨52, 8, 52, 58⟩ ⟨52, 8, 52, 58⟩ ⟨53, 8, 53, 12⟩ ⟨53, 8, 53, 17⟩ ⟨53, 20, 53, 24⟩ ⟨53, 8, 53, 24⟩) from rfl, show defScope sE9 = eS "size" from rfl] at lEE9_
  have TE9_ : ErrTxt l.prog K mg "TooLong" "size" CE9_ fE9_ := { nm := nm_size, gC := gEE9_, cls := ⟨_, _, _, _, _, _, _, _, _, _, _, _, _, _, _, xEE9_, (by show PySem.HandSPX.refsVE [.type "ValueError", .type "Exception", .type "BaseException", .type "object"] = true; decide +kernel)⟩, sa := saEE9_, ga := gEE9_1, gg := gEE9_2, noN := nEE9_, iC := iEE9_, tC := tEE9_, kC := kEE9_, exC := eEE9_, veC := vEE9_, tyC := yEE9_, hdC := hEE9_, mrC := rEE9_, suC := uEE9_, op := zop, gS := gSU, top := ztp, fn := ⟨_, _, _, _, _, _, _, _, _, _, _, _, _, _, _, _, _, _, _, _, _, _, _, _, _, _, _, _, _, _, _, _, lEE9_, cEE9_, dEE9_, wEE9_, oEE9_, by decide, qEE9_⟩ }
  have BE9_ : PySem.W.exmOne K (.ref CE9_) (.ref CJ) = some true := PySem.W.exm_ref eEJ hEJ yEJ jEE9_
  have XE9_ : ExcC K CE9_ := ⟨gEE9_1, gEE9_2, eEE9_, hEE9_, bEE9_1, bEE9_2, bEE9_3, bEE9_4⟩
  have gEE10_ := PySem.W.mg_of X G aEE10_
  rw [show defArgs sE10 = (eA "depth" ⟨56, 17, 56, 21⟩ ⟨56, 23, 56, 28⟩) from rfl, show defBody sE10 = (eB "depth" "loops nested too deep" ⟨57, 8, 57, 13⟩ ⟨57, 8, 57, 15⟩ ⟨57, 8, 57, 24⟩ ⟨57, 25, 57, 48⟩ ⟨57, 8, 57, 49⟩ ⟨57, 8, 57, 49⟩ ⟨58, 8, 58, 12⟩ ⟨58, 8, 58, 18⟩ ⟨58, 21, 58, 26⟩ ⟨58, 8, 58, 26⟩) from rfl, show defScope sE10 = eS "depth" from rfl] at lEE10_
  have TE10_ : ErrTxt l.prog K mg "TooDeep" "depth" CE10_ fE10_ := { nm := nm_depth, gC := gEE10_, cls := ⟨_, _, _, _, _, _, _, _, _, _, _, _, _, _, _, xEE10_, (by show PySem.HandSPX.refsVE [.type "ValueError", .type "Exception", .type "BaseException", .type "object"] = true; decide +kernel)⟩, sa := saEE10_, ga := gEE10_1, gg := gEE10_2, noN := nEE10_, iC := iEE10_, tC := tEE10_, kC := kEE10_, exC := eEE10_, veC := vEE10_, tyC := yEE10_, hdC := hEE10_, mrC := rEE10_, suC := uEE10_, op := zop, gS := gSU, top := ztp, fn := ⟨_, _, _, _, _, _, _, _, _, _, _, _, _, _, _, _, _, _, _, _, _, _, _, _, _, _, _, _, _, _, _, _, lEE10_, cEE10_, dEE10_, wEE10_, oEE10_, by decide, qEE10_⟩ }
  have BE10_ : PySem.W.exmOne K (.ref CE10_) (.ref CJ) = some true := PySem.W.exm_ref eEJ hEJ yEJ jEE10_
  have XE10_ : ExcC K CE10_ := ⟨gEE10_1, gEE10_2, eEE10_, hEE10_, bEE10_1, bEE10_2, bEE10_3, bEE10_4⟩
  have M : Bl mg := ⟨PySem.W.mg_none_of X G z0, PySem.W.mg_none_of X G z1, PySem.W.mg_none_of X G z2, PySem.W.mg_none_of X G z3, PySem.W.mg_none_of X G z4, PySem.W.mg_none_of X G z5, PySem.W.mg_none_of X G z6, PySem.W.mg_none_of X G z7, PySem.W.mg_none_of X G z8, PySem.W.mg_none_of X G z9, PySem.W.mg_none_of X G z10, PySem.W.mg_none_of X G z11, PySem.W.mg_none_of X G z12, PySem.W.mg_none_of X G z13, PySem.W.mg_none_of X G z14, PySem.W.mg_none_of X G z15⟩
  have m_LookupError := PySem.W.mg_none_of X G y0
  refine ⟨PySem.W.fnOf "law" "law" (defArgs sLaw) (defBody sLaw) (defScope sLaw) .none kV8 dc8 pm8 an8 cd8 ct8, fun s v => .of_eq rfl, fun base _ _ => ?_⟩
  have R : E13 l.prog K mg CJ CE0_ CE1_ CE2_ CE3_ CE4_ CE5_ CE6_ CE7_ CE8_ CE9_ CE10_ CE11_ CE12_ fE0_ fE1_ fE2_ fE3_ fE4_ fE5_ fE6_ fE7_ fE8_ fE9_ fE10_ := { T0 := TE0_, g0 := gEE0_, T1 := TE1_, g1 := gEE1_, T2 := TE2_, g2 := gEE2_, T3 := TE3_, g3 := gEE3_, T4 := TE4_, g4 := gEE4_, T5 := TE5_, g5 := gEE5_, T6 := TE6_, g6 := gEE6_, T7 := TE7_, g7 := gEE7_, T8 := TE8_, g8 := gEE8_, T9 := TE9_, g9 := gEE9_, T10 := TE10_, g10 := gEE10_, g11 := gEE11_, g12 := gEE12_, x11 := xx11, k11 := xk11, x12 := xx12, k12 := xk12, gJ := gEJ, mV := gVE, mL := m_LookupError, kk := kkk, kJ := kkJ, kV := kkV, kL := kkL, ka := kka }
  have hT : Has l.prog w K mg base 1 "_law_take" ["_law_urn_here", "_law_below"] spTake := has_take ATake
  have hO : Has l.prog w K mg base 2 "_law_of" ["_law_urn_here", "_law_items"] (spOf K) := has_of M AOf ATake
  have hR : Has l.prog w K mg base 2 "_law_right" ["_law_held"] (spRight K) := ok_right (k := 1) M ARight R (ok_made (k := 0) M AMade R) (ok_named (k := 0) M ANamed R) (ok_kinds (k := 0) M AKinds R) (ok_values (k := 0) M AValues R)
  have hLaw := ok_law (P := l.prog) (w := w) (base := base) (k := 2) M ALaw ((has_urn M AUrn).up (by decide)) (hT.up (by decide)) hO hR
  obtain ⟨f, fd, c⟩ := hLaw
  cases hfa.symm.trans c.g
  cases hfa.symm.trans (PySem.W.mg_of X G a8)
  obtain ⟨_, _, _, e⟩ := c.lk
  cases e.symm.trans l8
  exact c.ok
end K15
open PySem PySem.W PyProof.Rows
set_option maxRecDepth 100000 in
set_option maxHeartbeats 0 in
theorem PySem.Challenge.cw_leastjournal_k15_errors_by_themselves_holds : PySem.Challenge.rw_leastjournal_k15_errors_by_themselves.Holds := by
  w_on; o_law; k_head; (case hw => w_witness2)
  k_fill
  refine Lj.walk_G (l := PySem.Challenge.rw_leastjournal_k15_errors_by_themselves) (n := 63) (k := 3) (x := "_law_script") (sp := K15.spLaw) rfl (by decide) rfl ⟨rfl, by decide, by decide⟩ (fun w h Y => PySem.W.kIn_of Y) ?F (fun _ _ a ns hl _ hS => ⟨a, ns, rfl, hS, hl, fun _ => rfl⟩)
  case F =>
    intro w mg fa h KX G hmg
    refine' K15.all_mk KX G hmg ?a0 ?l0 ?c0 ?k0 ?a1 ?l1 ?c1 ?k1 ?a2 ?l2 ?c2 ?k2 ?a3 ?l3 ?c3 ?k3 ?a4 ?l4 ?c4 ?k4 ?a5 ?l5 ?c5 ?k5 ?a6 ?l6 ?c6 ?k6 ?a7 ?l7 ?c7 ?k7 ?a8 ?l8 ?c8 ?k8 ?z0 ?z1 ?z2 ?z3 ?z4 ?z5 ?z6 ?z7 ?z8 ?z9 ?z10 ?z11 ?z12 ?z13 ?z14 ?z15 ?y0 ?aEJ ?eEJ ?hEJ ?yEJ ?zsu ?zve ?zop ?ztp ?aEE11_ ?aEE12_ ?aEE0_ ?xEE0_ ?saEE0_ ?gEE0_1 ?gEE0_2 ?nEE0_ ?iEE0_ ?tEE0_ ?kEE0_ ?eEE0_ ?vEE0_ ?yEE0_ ?hEE0_ ?rEE0_ ?uEE0_ ?lEE0_ ?cEE0_ ?dEE0_ ?wEE0_ ?oEE0_ ?qEE0_ ?jEE0_ ?bEE0_1 ?bEE0_2 ?bEE0_3 ?bEE0_4 ?aEE1_ ?xEE1_ ?saEE1_ ?gEE1_1 ?gEE1_2 ?nEE1_ ?iEE1_ ?tEE1_ ?kEE1_ ?eEE1_ ?vEE1_ ?yEE1_ ?hEE1_ ?rEE1_ ?uEE1_ ?lEE1_ ?cEE1_ ?dEE1_ ?wEE1_ ?oEE1_ ?qEE1_ ?jEE1_ ?bEE1_1 ?bEE1_2 ?bEE1_3 ?bEE1_4 ?aEE2_ ?xEE2_ ?saEE2_ ?gEE2_1 ?gEE2_2 ?nEE2_ ?iEE2_ ?tEE2_ ?kEE2_ ?eEE2_ ?vEE2_ ?yEE2_ ?hEE2_ ?rEE2_ ?uEE2_ ?lEE2_ ?cEE2_ ?dEE2_ ?wEE2_ ?oEE2_ ?qEE2_ ?jEE2_ ?bEE2_1 ?bEE2_2 ?bEE2_3 ?bEE2_4 ?aEE3_ ?xEE3_ ?saEE3_ ?gEE3_1 ?gEE3_2 ?nEE3_ ?iEE3_ ?tEE3_ ?kEE3_ ?eEE3_ ?vEE3_ ?yEE3_ ?hEE3_ ?rEE3_ ?uEE3_ ?lEE3_ ?cEE3_ ?dEE3_ ?wEE3_ ?oEE3_ ?qEE3_ ?jEE3_ ?bEE3_1 ?bEE3_2 ?bEE3_3 ?bEE3_4 ?aEE4_ ?xEE4_ ?saEE4_ ?gEE4_1 ?gEE4_2 ?nEE4_ ?iEE4_ ?tEE4_ ?kEE4_ ?eEE4_ ?vEE4_ ?yEE4_ ?hEE4_ ?rEE4_ ?uEE4_ ?lEE4_ ?cEE4_ ?dEE4_ ?wEE4_ ?oEE4_ ?qEE4_ ?jEE4_ ?bEE4_1 ?bEE4_2 ?bEE4_3 ?bEE4_4 ?aEE5_ ?xEE5_ ?saEE5_ ?gEE5_1 ?gEE5_2 ?nEE5_ ?iEE5_ ?tEE5_ ?kEE5_ ?eEE5_ ?vEE5_ ?yEE5_ ?hEE5_ ?rEE5_ ?uEE5_ ?lEE5_ ?cEE5_ ?dEE5_ ?wEE5_ ?oEE5_ ?qEE5_ ?jEE5_ ?bEE5_1 ?bEE5_2 ?bEE5_3 ?bEE5_4 ?aEE6_ ?xEE6_ ?saEE6_ ?gEE6_1 ?gEE6_2 ?nEE6_ ?iEE6_ ?tEE6_ ?kEE6_ ?eEE6_ ?vEE6_ ?yEE6_ ?hEE6_ ?rEE6_ ?uEE6_ ?lEE6_ ?cEE6_ ?dEE6_ ?wEE6_ ?oEE6_ ?qEE6_ ?jEE6_ ?bEE6_1 ?bEE6_2 ?bEE6_3 ?bEE6_4 ?aEE7_ ?xEE7_ ?saEE7_ ?gEE7_1 ?gEE7_2 ?nEE7_ ?iEE7_ ?tEE7_ ?kEE7_ ?eEE7_ ?vEE7_ ?yEE7_ ?hEE7_ ?rEE7_ ?uEE7_ ?lEE7_ ?cEE7_ ?dEE7_ ?wEE7_ ?oEE7_ ?qEE7_ ?jEE7_ ?bEE7_1 ?bEE7_2 ?bEE7_3 ?bEE7_4 ?aEE8_ ?xEE8_ ?saEE8_ ?gEE8_1 ?gEE8_2 ?nEE8_ ?iEE8_ ?tEE8_ ?kEE8_ ?eEE8_ ?vEE8_ ?yEE8_ ?hEE8_ ?rEE8_ ?uEE8_ ?lEE8_ ?cEE8_ ?dEE8_ ?wEE8_ ?oEE8_ ?qEE8_ ?jEE8_ ?bEE8_1 ?bEE8_2 ?bEE8_3 ?bEE8_4 ?aEE9_ ?xEE9_ ?saEE9_ ?gEE9_1 ?gEE9_2 ?nEE9_ ?iEE9_ ?tEE9_ ?kEE9_ ?eEE9_ ?vEE9_ ?yEE9_ ?hEE9_ ?rEE9_ ?uEE9_ ?lEE9_ ?cEE9_ ?dEE9_ ?wEE9_ ?oEE9_ ?qEE9_ ?jEE9_ ?bEE9_1 ?bEE9_2 ?bEE9_3 ?bEE9_4 ?aEE10_ ?xEE10_ ?saEE10_ ?gEE10_1 ?gEE10_2 ?nEE10_ ?iEE10_ ?tEE10_ ?kEE10_ ?eEE10_ ?vEE10_ ?yEE10_ ?hEE10_ ?rEE10_ ?uEE10_ ?lEE10_ ?cEE10_ ?dEE10_ ?wEE10_ ?oEE10_ ?qEE10_ ?jEE10_ ?bEE10_1 ?bEE10_2 ?bEE10_3 ?bEE10_4 ?xx11 ?xx12 ?xk11 ?xk12 ?kkk ?kkJ ?kkV ?kkL ?kka
    (case a0 => k_is); (case l0 => k_is); (case c0 => k_is); (case k0 => k_is); (case a1 => k_is); (case l1 => k_is); (case c1 => k_is); (case k1 => k_is); (case a2 => k_is); (case l2 => k_is); (case c2 => k_is); (case k2 => k_is); (case a3 => k_is); (case l3 => k_is); (case c3 => k_is); (case k3 => k_is); (case a4 => k_is); (case l4 => k_is); (case c4 => k_is); (case k4 => k_is); (case a5 => k_is); (case l5 => k_is); (case c5 => k_is); (case k5 => k_is); (case a6 => k_is); (case l6 => k_is); (case c6 => k_is); (case k6 => k_is); (case a7 => k_is); (case l7 => k_is); (case c7 => k_is); (case k7 => k_is); (case a8 => k_is); (case l8 => k_is); (case c8 => k_is); (case k8 => k_is); (case z0 => k_is); (case z1 => k_is); (case z2 => k_is); (case z3 => k_is); (case z4 => k_is); (case z5 => k_is); (case z6 => k_is); (case z7 => k_is); (case z8 => k_is); (case z9 => k_is); (case z10 => k_is); (case z11 => k_is); (case z12 => k_is); (case z13 => k_is); (case z14 => k_is); (case z15 => k_is); (case y0 => k_is)
    (case aEJ => k_is); (case eEJ => k_is); (case hEJ => k_is); (case yEJ => k_is); (case zsu => k_is); (case zve => k_is); (case zop => k_is); (case ztp => decide +kernel); (case aEE11_ => k_is); (case aEE12_ => k_is); (case aEE0_ => k_is); (case xEE0_ => k_is); (case saEE0_ => k_is); (case gEE0_1 => k_is); (case gEE0_2 => k_is); (case nEE0_ => k_is); (case iEE0_ => k_is); (case tEE0_ => k_is); (case kEE0_ => k_is); (case eEE0_ => k_is); (case vEE0_ => k_is); (case yEE0_ => k_is); (case hEE0_ => k_is); (case rEE0_ => k_is); (case uEE0_ => ks_is); (case lEE0_ => k_is); (case cEE0_ => k_is); (case dEE0_ => k_is); (case wEE0_ => rfl); (case oEE0_ => first | rfl | decide +kernel); (case qEE0_ => k_is); (case jEE0_ => k_is); (case bEE0_1 => k_is); (case bEE0_2 => k_is); (case bEE0_3 => k_is); (case bEE0_4 => k_is); (case aEE1_ => k_is); (case xEE1_ => k_is); (case saEE1_ => k_is); (case gEE1_1 => k_is); (case gEE1_2 => k_is); (case nEE1_ => k_is); (case iEE1_ => k_is); (case tEE1_ => k_is); (case kEE1_ => k_is); (case eEE1_ => k_is); (case vEE1_ => k_is); (case yEE1_ => k_is); (case hEE1_ => k_is); (case rEE1_ => k_is); (case uEE1_ => ks_is); (case lEE1_ => k_is); (case cEE1_ => k_is); (case dEE1_ => k_is); (case wEE1_ => rfl); (case oEE1_ => first | rfl | decide +kernel); (case qEE1_ => k_is); (case jEE1_ => k_is); (case bEE1_1 => k_is); (case bEE1_2 => k_is); (case bEE1_3 => k_is); (case bEE1_4 => k_is); (case aEE2_ => k_is); (case xEE2_ => k_is); (case saEE2_ => k_is); (case gEE2_1 => k_is); (case gEE2_2 => k_is); (case nEE2_ => k_is); (case iEE2_ => k_is); (case tEE2_ => k_is); (case kEE2_ => k_is); (case eEE2_ => k_is); (case vEE2_ => k_is); (case yEE2_ => k_is); (case hEE2_ => k_is); (case rEE2_ => k_is); (case uEE2_ => ks_is); (case lEE2_ => k_is); (case cEE2_ => k_is); (case dEE2_ => k_is); (case wEE2_ => rfl); (case oEE2_ => first | rfl | decide +kernel); (case qEE2_ => k_is); (case jEE2_ => k_is); (case bEE2_1 => k_is); (case bEE2_2 => k_is); (case bEE2_3 => k_is); (case bEE2_4 => k_is); (case aEE3_ => k_is); (case xEE3_ => k_is); (case saEE3_ => k_is); (case gEE3_1 => k_is); (case gEE3_2 => k_is); (case nEE3_ => k_is); (case iEE3_ => k_is); (case tEE3_ => k_is); (case kEE3_ => k_is); (case eEE3_ => k_is); (case vEE3_ => k_is); (case yEE3_ => k_is); (case hEE3_ => k_is); (case rEE3_ => k_is); (case uEE3_ => ks_is); (case lEE3_ => k_is); (case cEE3_ => k_is); (case dEE3_ => k_is); (case wEE3_ => rfl); (case oEE3_ => first | rfl | decide +kernel); (case qEE3_ => k_is); (case jEE3_ => k_is); (case bEE3_1 => k_is); (case bEE3_2 => k_is); (case bEE3_3 => k_is); (case bEE3_4 => k_is); (case aEE4_ => k_is); (case xEE4_ => k_is); (case saEE4_ => k_is); (case gEE4_1 => k_is); (case gEE4_2 => k_is); (case nEE4_ => k_is); (case iEE4_ => k_is); (case tEE4_ => k_is); (case kEE4_ => k_is); (case eEE4_ => k_is); (case vEE4_ => k_is); (case yEE4_ => k_is); (case hEE4_ => k_is); (case rEE4_ => k_is); (case uEE4_ => ks_is); (case lEE4_ => k_is); (case cEE4_ => k_is); (case dEE4_ => k_is); (case wEE4_ => rfl); (case oEE4_ => first | rfl | decide +kernel); (case qEE4_ => k_is); (case jEE4_ => k_is); (case bEE4_1 => k_is); (case bEE4_2 => k_is); (case bEE4_3 => k_is); (case bEE4_4 => k_is); (case aEE5_ => k_is); (case xEE5_ => k_is); (case saEE5_ => k_is); (case gEE5_1 => k_is); (case gEE5_2 => k_is); (case nEE5_ => k_is); (case iEE5_ => k_is); (case tEE5_ => k_is); (case kEE5_ => k_is); (case eEE5_ => k_is); (case vEE5_ => k_is); (case yEE5_ => k_is); (case hEE5_ => k_is); (case rEE5_ => k_is); (case uEE5_ => ks_is); (case lEE5_ => k_is); (case cEE5_ => k_is); (case dEE5_ => k_is); (case wEE5_ => rfl); (case oEE5_ => first | rfl | decide +kernel); (case qEE5_ => k_is); (case jEE5_ => k_is); (case bEE5_1 => k_is); (case bEE5_2 => k_is); (case bEE5_3 => k_is); (case bEE5_4 => k_is); (case aEE6_ => k_is); (case xEE6_ => k_is); (case saEE6_ => k_is); (case gEE6_1 => k_is); (case gEE6_2 => k_is); (case nEE6_ => k_is); (case iEE6_ => k_is); (case tEE6_ => k_is); (case kEE6_ => k_is); (case eEE6_ => k_is); (case vEE6_ => k_is); (case yEE6_ => k_is); (case hEE6_ => k_is); (case rEE6_ => k_is); (case uEE6_ => ks_is); (case lEE6_ => k_is); (case cEE6_ => k_is); (case dEE6_ => k_is); (case wEE6_ => rfl); (case oEE6_ => first | rfl | decide +kernel); (case qEE6_ => k_is); (case jEE6_ => k_is); (case bEE6_1 => k_is); (case bEE6_2 => k_is); (case bEE6_3 => k_is); (case bEE6_4 => k_is); (case aEE7_ => k_is); (case xEE7_ => k_is); (case saEE7_ => k_is); (case gEE7_1 => k_is); (case gEE7_2 => k_is); (case nEE7_ => k_is); (case iEE7_ => k_is); (case tEE7_ => k_is); (case kEE7_ => k_is); (case eEE7_ => k_is); (case vEE7_ => k_is); (case yEE7_ => k_is); (case hEE7_ => k_is); (case rEE7_ => k_is); (case uEE7_ => ks_is); (case lEE7_ => k_is); (case cEE7_ => k_is); (case dEE7_ => k_is); (case wEE7_ => rfl); (case oEE7_ => first | rfl | decide +kernel); (case qEE7_ => k_is); (case jEE7_ => k_is); (case bEE7_1 => k_is); (case bEE7_2 => k_is); (case bEE7_3 => k_is); (case bEE7_4 => k_is); (case aEE8_ => k_is); (case xEE8_ => k_is); (case saEE8_ => k_is); (case gEE8_1 => k_is); (case gEE8_2 => k_is); (case nEE8_ => k_is); (case iEE8_ => k_is); (case tEE8_ => k_is); (case kEE8_ => k_is); (case eEE8_ => k_is); (case vEE8_ => k_is); (case yEE8_ => k_is); (case hEE8_ => k_is); (case rEE8_ => k_is); (case uEE8_ => ks_is); (case lEE8_ => k_is); (case cEE8_ => k_is); (case dEE8_ => k_is); (case wEE8_ => rfl); (case oEE8_ => first | rfl | decide +kernel); (case qEE8_ => k_is); (case jEE8_ => k_is); (case bEE8_1 => k_is); (case bEE8_2 => k_is); (case bEE8_3 => k_is); (case bEE8_4 => k_is); (case aEE9_ => k_is); (case xEE9_ => k_is); (case saEE9_ => k_is); (case gEE9_1 => k_is); (case gEE9_2 => k_is); (case nEE9_ => k_is); (case iEE9_ => k_is); (case tEE9_ => k_is); (case kEE9_ => k_is); (case eEE9_ => k_is); (case vEE9_ => k_is); (case yEE9_ => k_is); (case hEE9_ => k_is); (case rEE9_ => k_is); (case uEE9_ => ks_is); (case lEE9_ => k_is); (case cEE9_ => k_is); (case dEE9_ => k_is); (case wEE9_ => rfl); (case oEE9_ => first | rfl | decide +kernel); (case qEE9_ => k_is); (case jEE9_ => k_is); (case bEE9_1 => k_is); (case bEE9_2 => k_is); (case bEE9_3 => k_is); (case bEE9_4 => k_is); (case aEE10_ => k_is); (case xEE10_ => k_is); (case saEE10_ => k_is); (case gEE10_1 => k_is); (case gEE10_2 => k_is); (case nEE10_ => k_is); (case iEE10_ => k_is); (case tEE10_ => k_is); (case kEE10_ => k_is); (case eEE10_ => k_is); (case vEE10_ => k_is); (case yEE10_ => k_is); (case hEE10_ => k_is); (case rEE10_ => k_is); (case uEE10_ => ks_is); (case lEE10_ => k_is); (case cEE10_ => k_is); (case dEE10_ => k_is); (case wEE10_ => rfl); (case oEE10_ => first | rfl | decide +kernel); (case qEE10_ => k_is); (case jEE10_ => k_is); (case bEE10_1 => k_is); (case bEE10_2 => k_is); (case bEE10_3 => k_is); (case bEE10_4 => k_is); (case xx11 => k_exc); (case xx12 => k_exc); (case xk11 => k_is); (case xk12 => k_is); (case kkk => kernel_rfl); (case kkJ => kernel_rfl); (case kkV => kernel_rfl); (case kkL => kernel_rfl); (case kka => kernel_rfl)
