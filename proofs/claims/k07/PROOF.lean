import PyProof.Rows.All
import Wide.All
import OpenK.AllK
import Wide.FinOn
import HandS.ForMost
import HandS.Wide
import HandS.IsInst
import HandS.Flow
import HandS.Evl
import PyProof.StrBlock2
import HandS.WideBits
import HandS.Walk
import HandS.TupAny
import KE.GoesEnum
import PyProof.EqAt
import PyProof.EqKinds
import PyProof.TupleCall
import KE.KExcSuper
import HandS.ForExc
import HandS.ExcInit
import HandS.ExcIs
import HandS.ExcField
import HandS.ExcValue
import KE.KExcIs
import HandS.Conv
import KE.RegKSuper
import KE.RegKIsAll
import PySem.Challenge.RW_leastjournal_k07_steps_located
set_option Elab.async false
set_option linter.all false
set_option maxRecDepth 100000
namespace Lj
open PySem PySem.Spec PyProof.Rows L2
section
variable {X : Cx}
theorem op_mulS : OpR X (binaryOp .Mult) (fun x y H Q => ∃ z n, x = .str z ∧ y = .int n ∧ MulOk z n ∧ Q (.str (Txt.mul z n)) H) := by
  intro pins s σ H x y v u Q I rx ry h
  obtain ⟨z, n, rfl, rfl, ok, q⟩ := h
  obtain ⟨t, rfl⟩ := rx
  obtain ⟨t', rfl⟩ := ry
  exact SB.mul ok fun t2 k => ⟨.str _, H, I.tok _, ⟨_, rfl⟩, q⟩
end
section
variable {X : Cx} {CX : CXT} {k : Nat} {f : Addr} {fd : FuncData} {ps ks : List Str} {sp : Sp} {E : XK} {x : Str} {p pos : Pos} {kws : List Keyword} {tk : TA}
  {g : List Value → List Value → List Value} {gV : List V → List V → List V}
/-- f(k = v, ..), no positional arguments -/
theorem pe_callK0 (F : FnOk X.prog X.w X.K X.mg X.base CX k f fd ps sp) (hr : Room k X.A) (hg : Gl X x) (hm : X.mg x = some (.ref f)) (hk : PySem.W.keepIn X.K (.ref f) = true) (hb : KBinds X.K fd ps ks g gV) (hx : Passes CX X E)
    (hkw : PK X kws tk) (hall : (backToKw pos (keywordEach kws X.env)).all (·.1.isSome) = true := by rfl) (hks : (backToKw pos (keywordEach kws X.env)).filterMap (·.1) = ks := by rfl)
    (hdb : (x == ("__debug__" : Str)) = false := by decide)
    (hpl : ((backTo pos (starEach [] X.env)).any (·.1) || (backToKw pos (keywordEach kws X.env)).any (·.1.isNone)) = false := by rfl) :
    PE X (.Call (.Name x p) [] kws pos) (fun σ H Q => tk σ H fun zs H1 => sp (gV [] zs) H1 Q E) := by
  refine ⟨fun pins s σ H Q I h => ?_⟩
  refine wpAny_Call_Name_kw (ld_glob I hg hm ?_ hdb)
  refine PySem.W.callWith_KW0 (h₀ := X.base) I.ok.mod.kin hk hall (thn (hkw.run pos pins s σ H _ I h) fun ws s2 ⟨zs, H2, I2, rz, q2⟩ => ⟨I2.kIn, ?_⟩) hpl
  rw [hks]
  exact run_fnk (us := []) (vs := []) F hr hb hx I2 .nil rz q2
end
/-! ### heaps -/
theorem same_new {H : Hp} {p : Addr} {o : HO} (h : H p = none) : Same H (upd H p o) := fun b x e => by
  rw [upd_ne (ne_of_none e h)]
  exact e
/-- all but p stands as before -/
def But (p : Addr) (H H' : Hp) : Prop := ∀ b o, b ≠ p → H b = some o → H' b = some o
theorem But.refl (p : Addr) (H : Hp) : But p H H := fun _ _ _ h => h
theorem But.trans {p : Addr} {H H1 H2 : Hp} (a : But p H H1) (b : But p H1 H2) : But p H H2 := fun c o n h => b c o n (a c o n h)
theorem But.same {p : Addr} {H H' : Hp} (s : Same H H') : But p H H' := fun b o _ h => s b o h
theorem But.new {p q : Addr} {H : Hp} {o : HO} (h : H q = none) : But p H (upd H q o) := But.same (same_new h)
theorem But.upd {p : Addr} {H : Hp} {o : HO} : But p H (upd H p o) := fun b x n e => by
  rw [upd_ne n]
  exact e
theorem But.rd {p a : Addr} {H H' : Hp} {u : HO} (b : But p H H') (n : a ≠ p) (h : Rd H a u) : Rd H' a u := by
  rcases h with h | ⟨o, h⟩
  · exact .inl (b _ _ n h)
  · exact .inr ⟨o, b _ _ n h⟩
theorem But.seq {K : PySem.W.Frag} {p a : Addr} {H H' : Hp} {xs : List V} (b : But p H H') (n : a ≠ p) (h : SqL K H a xs) : SqL K H' a xs := by
  rcases h with h | h
  · exact .inl (b.rd n h)
  · exact .inr h
theorem But.tup {K : PySem.W.Frag} {p a : Addr} {H H' : Hp} {xs : List V} (b : But p H H') (n : a ≠ p) (h : SqT K H a xs) : SqT K H' a xs := by
  rcases h with h | h
  · exact .inl (b.rd n h)
  · exact .inr h
/-! ### the urn: two numbers in a list -/
def wide : Nat := 2 ^ 1000
def Urn (H : Hp) (p : Addr) : Prop := ∃ u v : Int, H p = some (.lst [.int u, .int v]) ∧ 0 ≤ u ∧ u.natAbs < wide ∧ 0 ≤ v ∧ v < 2305843009213693951
theorem Urn.but {p q : Addr} {H H' : Hp} (b : But q H H') (n : p ≠ q) (h : Urn H p) : Urn H' p := by
  obtain ⟨u, v, e, r⟩ := h
  exact ⟨u, v, b _ _ n e, r⟩
theorem Urn.same {p : Addr} {H H' : Hp} (b : Same H H') (h : Urn H p) : Urn H' p := by
  obtain ⟨u, v, e, r⟩ := h
  exact ⟨u, v, b _ _ e, r⟩
theorem Urn.ne {p q : Addr} {H : Hp} (h : Urn H p) (e : H q = none) : q ≠ p := by
  obtain ⟨u, v, e', _⟩ := h
  exact (ne_of_none e' e).symm
theorem Urn.free {p q : Addr} {H H' : Hp} (h : Urn H' p) (b : But p H H') (e : H' q = none) : H q = none := by
  have n := h.ne e
  cases z : H q with
  | none => rfl
  | some o => rw [b _ _ n z] at e; cases e
def spUrn (K : PySem.W.Frag) : Sp := fun vs H Q _ => ∃ (a : Addr) (ns : List Int) (k : Int), vs = [.ref a, .int k] ∧ SqL K H a (ns.map V.int) ∧ 0 ≤ k ∧ k ≤ 1000 ∧
  ∀ H' p, Same H H' → H p = none → Urn H' p → Q (.ref p) H'
def spTake : Sp := fun vs H Q _ => ∃ (p : Addr) (n : Int), vs = [.ref p, .int n] ∧ Urn H p ∧ 0 < n ∧ n.natAbs < wide ∧
  ∀ (d : Int) H', 0 ≤ d → d < n → Urn H' p → But p H H' → Q (.int d) H'
def spOf (K : PySem.W.Frag) : Sp := fun vs H Q _ => ∃ (p q : Addr) (xs : List V), vs = [.ref p, .ref q] ∧ Urn H p ∧ q ≠ p ∧ SqL K H q xs ∧ xs ≠ [] ∧ xs.length ≤ 1000 ∧
  ∀ x H', x ∈ xs → Urn H' p → But p H H' → Q x H'
def urnText : Str := "1" ++ Txt.mul "0" 300
theorem urnText_int : PySem.intText? urnText = some (10 ^ 300) := by decide +kernel
theorem urnText_len : urnText.length ≤ 640 := by decide +kernel
theorem mul_ok0 : MulOk "0" 300 := ⟨by decide, fun _ _ => by decide, fun _ _ => by decide⟩
theorem small {n : Nat} (h : n ≤ 1000) : n ≤ sizeLine := Nat.le_of_lt (small1000 h)
theorem own_lt (c : Int) (b : Bool) : 0 ≤ (if c < 0 then -c else c) % 10 ^ 300 * (if b then 1 else 0) ∧ ((if c < 0 then -c else c) % 10 ^ 300 * (if b then 1 else 0)).natAbs < wide := by
  have h1 : 0 ≤ (if c < 0 then -c else c) % (10 ^ 300 : Int) := Int.emod_nonneg _ (by decide)
  have h2 : (if c < 0 then -c else c) % (10 ^ 300 : Int) < 10 ^ 300 := Int.emod_lt_of_pos _ (by decide)
  generalize (if c < 0 then -c else c) % (10 ^ 300 : Int) = z at h1 h2
  have h3 : (10 ^ 300 : Int) < (wide : Int) := by decide +kernel
  have h4 : 0 < wide := by decide +kernel
  cases b with
  | true =>
    rw [if_pos rfl, Int.mul_one]
    exact ⟨h1, by omega⟩
  | false =>
    rw [if_neg Bool.false_ne_true, Int.mul_zero]
    exact ⟨Int.le_refl 0, h4⟩
theorem ind_bd (b : Bool) : -(2 ^ 64) < (if b then 1 else 0 : Int) ∧ (if b then 1 else 0 : Int) < 2 ^ 64 := by
  cases b
  · exact ⟨by decide, by decide⟩
  · exact ⟨by decide, by decide⟩
def nx (v : Int) : Int := (v * 1181783497276652981 + 12345678910987) % 2305843009213693951
theorem nx0 (v : Int) : 0 ≤ nx v := Int.emod_nonneg _ (by decide)
theorem nx1 (v : Int) : nx v < 2305843009213693951 := Int.emod_lt_of_pos _ (by decide)
def ny (v : Int) : Int := (v * 3202034522624059733 + 1) % 2305843009213693951
theorem ny0 (v : Int) : 0 ≤ ny v := Int.emod_nonneg _ (by decide)
theorem ny1 (v : Int) : ny v < 2305843009213693951 := Int.emod_lt_of_pos _ (by decide)
theorem at_int {ns : List Int} {k : Int} (h0 : 0 ≤ k) (h : k < (ns.length : Int)) : ∃ v : Int, v ∈ ns ∧ atI (ns.map V.int) k = some (.int v) := by
  have hk : k.toNat < ns.length := by omega
  have ek : k = ((k.toNat : Nat) : Int) := by omega
  have q : atI (ns.map V.int) ((k.toNat : Nat) : Int) = some (.int ns[k.toNat]) := atI_nat (by rw [List.getElem?_map, List.getElem?_eq_getElem hk] <;> rfl)
  rw [← ek] at q
  exact ⟨ns[k.toNat], List.getElem_mem hk, q⟩
theorem at_any {xs : List V} {k : Int} (h0 : 0 ≤ k) (h : k < (xs.length : Int)) : ∃ v : V, v ∈ xs ∧ atI xs k = some v := by
  have hk : k.toNat < xs.length := by omega
  have ek : k = ((k.toNat : Nat) : Int) := by omega
  have q : atI xs ((k.toNat : Nat) : Int) = some xs[k.toNat] := atI_nat (List.getElem?_eq_getElem hk)
  rw [← ek] at q
  exact ⟨xs[k.toNat], List.getElem_mem hk, q⟩
theorem iteP {c A B : Prop} [Decidable c] (h : c) (a : A) : if decide c = true then A else B := by
  rw [decide_eq_true h]
  exact a
theorem iteN {c A B : Prop} [Decidable c] (h : ¬ c) (b : B) : if decide c = true then A else B := by
  rw [decide_eq_false h]
  exact b
/-! ### rules with the written part named: for the blocks of comprehensions -/
section
variable {X : Cx} {K : PySem.W.Frag}
theorem ix_tupK (h : X.K = K) : IxR X (rIxT K) := h ▸ ix_tup
theorem ix_listK (h : X.K = K) : IxR X (rIxL K) := h ▸ ix_list
def rLenS (K : PySem.W.Frag) : List V → Hp → VK → Prop := fun xs H Q => ∃ p ys, xs = [.ref p] ∧ (SqL K H p ys ∨ SqT K H p ys) ∧ Q (.int ys.length) H
theorem call_len_seqK (h : X.K = K) : CallR X (.builtin "len") (rLenS K) := h ▸ call_len_seq
end
end Lj
set_option Elab.async false
set_option linter.all false
set_option maxRecDepth 100000
namespace Lj
open PySem PySem.Spec PyProof.Rows L2
/-! ### promises of defs that are called where no repr is under way -/
/-- the def at f keeps sp wherever nothing is being shown -/
structure FnG (P : Program) (w : World) (K : PySem.W.Frag) (mg : Str → Option Value) (base : Heap) (k : Nat) (f : Addr) (fd : FuncData) (ps : List Str) (sp : Sp) : Prop where
  len : ∀ vs H Q E, sp vs H Q E → vs.length = ps.length
  run : ∀ (A : Around) (out : List Env) (s : Shared) (H : Hp) (as : Args) (us : List Value) (vs : List V) (Q : VK) (E : XK), A.guards = some [] → Room k A → Env0 P w K mg base A out s H →
    BindsTo s fd as (ps.zip us) → Vals vs us → sp vs H Q E → codeAny (model P w) A (.call (.ref f) as) (CR CX0 out P w H s Q E) s
section
variable {P : Program} {w : World} {K : PySem.W.Frag} {mg : Str → Option Value} {base : Heap} {j k : Nat} {f : Addr} {fd : FuncData} {ps : List Str} {sp sp' : Sp}
theorem FnG.of (F : FnOk P w K mg base CX0 k f fd ps sp) : FnG P w K mg base k f fd ps sp := ⟨F.len, fun A out s H as us vs Q E _ => F.run A out s H as us vs Q E⟩
theorem FnG.up (F : FnG P w K mg base j f fd ps sp) (h : j ≤ k) : FnG P w K mg base k f fd ps sp := ⟨F.len, fun A out s H as us vs Q E g r => F.run A out s H as us vs Q E g (r.mono h)⟩
theorem FnG.weak (F : FnG P w K mg base k f fd ps sp) (h : ∀ vs H Q E, sp' vs H Q E → sp vs H Q E) : FnG P w K mg base k f fd ps sp' :=
  ⟨fun vs H Q E q => F.len vs H Q E (h _ _ _ _ q), fun A out s H as us vs Q E g r e b v q => F.run A out s H as us vs Q E g r e b v (h _ _ _ _ q)⟩
/-- by the def's body, where nothing is being shown -/
theorem FnG.body {x qual : Str} {st : Stmt} {N : List Str} (F : Fun K x qual st f fd) (S : FnScope N ps (defScope st)) (len : ∀ vs H Q E, sp vs H Q E → vs.length = ps.length)
    (hb : ∀ (cdv : Value) (A : Around) (out : List Env) (s : Shared) (H : Hp) (vs : List V) (Q : VK) (E : XK), A.guards = some [] → Room k (A.deeper (envOfC qual (defScope st) s.heap.objs.size f cdv)) → sp vs H Q E →
      ∃ t, PSs (cxOf CX0 P w K mg base N qual (defScope st) f cdv A out s H E).nox (defBody st) t ∧ t { nx := fun _ H' => Q .non H', rt := Q } (start N vs) H) : FnG P w K mg base (k + 1) f fd ps sp := by
  obtain ⟨c0, c1, c2, c3, c4, c5, cd, c6, c7, rfl, look, code⟩ := F.ex
  refine ⟨len, fun A out s H as us vs Q E hg room env bind vals want => ?_⟩
  have ln := len _ _ _ _ want
  have old : ∀ b o, base.get? b = some o → s.heap.get? b = some o := fun b o e => (env.bs b o e).1
  have here : K.In s.heap := env.mod.kin.keeps old
  refine codeAny_call_function room.depth (here _ _ look) rfl S.co S.gen rfl (PySem.W.codeRec_of here code) (bind _ _ _ _ ?_)
  refine wpAny_newFunctionEnv_cells S.kind (fun ⟨n, v⟩ m => (S.par n (List.of_mem_zip m).1).elim .inl fun c => .inr ⟨c, PySem.W.cellsFrom_some _ _ _ (.inl c)⟩) fun en he s1 x => ?_
  subst he
  refine ⟨(env.mod.nolimit.keeps old).keeps x.toInCall.keep, codeAny_func ?_⟩
  obtain ⟨t, rule, holds⟩ := hb cd A out s H vs Q E hg (room.deeper _) want
  have start0 := inv_start (CX := CX0) (E := E) S room.hd env ln vals x
  refine wpAny_mono (rule.nox.run [] s1 (start N vs) H _ start0 holds) (fun r s' z => ?_) fun _ _ z => z
  match r, z with
  | .ret u, ⟨v, σ', H', J, rv, q⟩ => exact ⟨v, H', J.os, J.bare, J.base, J.hok, rv, q⟩
  | .next, ⟨σ', H', J, q⟩ => exact ⟨.non, H', J.os, J.bare, J.base, J.hok, rfl, q⟩
  | .brk, ⟨_, _, _, q⟩ => exact False.elim q
  | .cont, ⟨_, _, _, q⟩ => exact False.elim q
end
/-- where a def stands, under the name x, with its promise -/
structure Cal (P : Program) (w : World) (K : PySem.W.Frag) (mg : Str → Option Value) (base : Heap) (k : Nat) (x : Str) (ps : List Str) (f : Addr) (fd : FuncData) (sp : Sp) : Prop where
  ok : FnG P w K mg base k f fd ps sp
  kp : PySem.W.keepIn K (.ref f) = true
  b : Binds K fd ps []
  g : mg x = some (.ref f)
  lk : ∃ oc od osl, K.lookup f = some ⟨oc, od, .func fd, osl⟩
theorem fun_lk {K : PySem.W.Frag} {x qual : Str} {st : Stmt} {f : Addr} {fd : FuncData} (F : Fun K x qual st f fd) : ∃ oc od osl, K.lookup f = some ⟨oc, od, .func fd, osl⟩ := by
  obtain ⟨c0, c1, c2, c3, c4, c5, cd, c6, c7, e, look, code⟩ := F.ex
  exact ⟨_, _, _, look⟩
def Has (P : Program) (w : World) (K : PySem.W.Frag) (mg : Str → Option Value) (base : Heap) (k : Nat) (x : Str) (ps : List Str) (sp : Sp) : Prop := ∃ f fd, Cal P w K mg base k x ps f fd sp
/-- the def of the text st stands under the name x -/
def At (K : PySem.W.Frag) (mg : Str → Option Value) (x : Str) (st : Stmt) (ps : List Str) : Prop := ∃ f fd, Fun K x x st f fd ∧ Binds K fd ps [] ∧ mg x = some (.ref f)
section
variable {P : Program} {w : World} {K : PySem.W.Frag} {mg : Str → Option Value} {base : Heap} {j k : Nat} {x : Str} {ps : List Str} {sp sp' : Sp}
theorem Has.up (h : Has P w K mg base j x ps sp) (l : j ≤ k) : Has P w K mg base k x ps sp := by
  obtain ⟨f, fd, c⟩ := h
  exact ⟨f, fd, c.ok.up l, c.kp, c.b, c.g, c.lk⟩
theorem Has.weak (h : Has P w K mg base k x ps sp) (i : ∀ vs H Q E, sp' vs H Q E → sp vs H Q E) : Has P w K mg base k x ps sp' := by
  obtain ⟨f, fd, c⟩ := h
  exact ⟨f, fd, c.ok.weak i, c.kp, c.b, c.g, c.lk⟩
theorem Has.by {st : Stmt} {N : List Str} (F : At K mg x st ps) (S : FnScope N ps (defScope st)) (len : ∀ vs H Q E, sp vs H Q E → vs.length = ps.length)
    (hb : ∀ (f : Addr) (cdv : Value) (A : Around) (out : List Env) (s : Shared) (H : Hp) (vs : List V) (Q : VK) (E : XK), A.guards = some [] → Room k (A.deeper (envOfC x (defScope st) s.heap.objs.size f cdv)) → sp vs H Q E →
      ∃ t, PSs (cxOf CX0 P w K mg base N x (defScope st) f cdv A out s H E).nox (defBody st) t ∧ t { nx := fun _ H' => Q .non H', rt := Q } (start N vs) H) : Has P w K mg base (k + 1) x ps sp := by
  obtain ⟨f, fd, F, b, g⟩ := F
  exact ⟨f, fd, .body F S len (hb f), F.kp, b, g, fun_lk F⟩
end
/-- the def behind a name is the text's -/
theorem Cal.text {P : Program} {w : World} {K : PySem.W.Frag} {mg : Str → Option Value} {base : Heap} {k : Nat} {x : Str} {ps qs : List Str} {f : Addr} {fd : FuncData} {sp : Sp} {st : Stmt} (c : Cal P w K mg base k x ps f fd sp) (F : At K mg x st qs) : Fun K x x st f fd := by
  obtain ⟨f2, fd2, F2, _, g2⟩ := F
  have e := c.g.symm.trans g2
  cases e
  obtain ⟨_, _, _, l1⟩ := c.lk
  obtain ⟨_, _, _, l2⟩ := fun_lk F2
  have e := l1.symm.trans l2
  cases e
  exact F2
section
variable {X : Cx} {k : Nat} {x : Str} {ps ks : List Str} {f : Addr} {fd : FuncData} {sp : Sp} {p pos : Pos} {e : Expr} {es : List Expr} {kws : List Keyword} {t tk : TA}
  {g : List Value → List Value → List Value} {gV : List V → List V → List V}
def tCal (sp : Sp) (t : TA) : TE := fun σ H Q => t σ H fun vs H1 => sp vs H1 Q E0
def tCal0 (sp : Sp) : TE := fun _ H Q => sp [] H Q E0
def tCalK (sp : Sp) (gV : List V → List V → List V) (t tk : TA) : TE := fun σ H Q => t σ H fun vs H1 => tk σ H1 fun zs H2 => sp (gV vs zs) H2 Q E0
theorem cal_run {pins : List (Addr × Obj)} {σ : L2.St} {H : Hp} {s : Shared} {Q : VK} {us ws zs : List Value} {vs : List V} {kw : List (Str × Value)} {s2 : Shared} (c : FnG X.prog X.w X.K X.mg X.base k f fd ps sp) (hg : X.A.guards = some []) (hr : Room k X.A)
    (I : Inv X pins σ H s) (bind : BindsTo s fd ⟨us, kw⟩ (ps.zip zs)) (vals : Vals vs zs) (h : sp vs H Q E0) : wpAny (model X.prog X.w) X.A (call (.ref f) us kw) (EP X pins σ Q) X.xe s := by
  refine wpAny_call (codeAny_mono (c.run X.A X.stack s H ⟨us, kw⟩ zs vs Q E0 hg hr I.env0 bind vals h) fun r s' z => ?_)
  match r, z with
  | .error _, z => exact z.elim
  | .ok (.ret _), z => exact I.after z
  | .ok .next, z => exact z.elim
  | .ok .brk, z => exact z.elim
  | .ok .cont, z => exact z.elim
/-- f(e, ..) -/
theorem pe_cal (c : Cal X.prog X.w X.K X.mg X.base k x ps f fd sp) (hg : X.A.guards = some []) (hr : Room k X.A) (gl : Gl X x) (ha : PA X (e :: es) t) (hdb : (x == ("__debug__" : Str)) = false := by decide)
    (he : starEach (e :: es) X.env = (false, eval e X.env) :: starEach es X.env := by rfl) (hpl : (backTo pos (starEach es X.env)).any (·.1) = false := by rfl) :
    PE X (.Call (.Name x p) (e :: es) [] pos) (tCal sp t) := by
  refine ⟨fun pins s σ H Q I h => wpAny_Call_Name_kw (ld_glob I gl c.g ?_ hdb)⟩
  refine PySem.W.callWith_K (h₀ := X.base) I.ok.mod.kin c.kp (thn (ha.run pos pins s σ H _ I h) fun us s1 ⟨vs, H1, I1, r, q⟩ => ⟨I1.kIn, ?_⟩) he hpl
  have ln : (us ++ []).length = ps.length := by
    rw [List.append_nil, ← r.length]
    exact c.ok.len _ _ _ _ q
  have bd := c.b s1 us I1.kIn ln
  rw [List.append_nil] at bd
  exact cal_run (ws := []) (s2 := s1) c.ok hg hr I1 bd r q
/-- f() -/
theorem pe_cal0 (c : Cal X.prog X.w X.K X.mg X.base k x ps f fd sp) (hg : X.A.guards = some []) (hr : Room k X.A) (gl : Gl X x) (hdb : (x == ("__debug__" : Str)) = false := by decide) :
    PE X (.Call (.Name x p) [] [] pos) (tCal0 sp) := by
  refine ⟨fun pins s σ H Q I h => wpAny_Call_Name_kw (ld_glob I gl c.g ?_ hdb)⟩
  have ln := c.ok.len _ _ _ _ h
  exact PySem.W.callWith_K0 I.kIn c.kp (cal_run (ws := []) (zs := []) (s2 := s) c.ok hg hr I (c.b s [] I.kIn ln) .nil h)
/-- f(e, .., n = v, ..) and f(n = v, ..) -/
theorem pe_calK (c : Cal X.prog X.w X.K X.mg X.base k x ps f fd sp) (hb : KBinds X.K fd ps ks g gV) (hg : X.A.guards = some []) (hr : Room k X.A) (gl : Gl X x) (ha : PA X (e :: es) t) (hkw : PK X kws tk)
    (hall : (backToKw pos (keywordEach kws X.env)).all (·.1.isSome) = true := by rfl) (hks : (backToKw pos (keywordEach kws X.env)).filterMap (·.1) = ks := by rfl) (hdb : (x == ("__debug__" : Str)) = false := by decide)
    (he : starEach (e :: es) X.env = (false, eval e X.env) :: starEach es X.env := by rfl)
    (hpl : ((backTo pos (starEach (e :: es) X.env)).any (·.1) || (backToKw pos (keywordEach kws X.env)).any (·.1.isNone)) = false := by rfl) :
    PE X (.Call (.Name x p) (e :: es) kws pos) (tCalK sp gV t tk) := by
  refine ⟨fun pins s σ H Q I h => wpAny_Call_Name_kw (ld_glob I gl c.g ?_ hdb)⟩
  refine PySem.W.callWith_KW (h₀ := X.base) I.ok.mod.kin c.kp hall (thn (ha.run pos pins s σ H _ I h) fun us s1 ⟨vs, H1, I1, r, q⟩ => ?_) hpl he
  refine thn (hkw.run pos pins s1 σ H1 _ I1 q) fun ws s2 ⟨zs, H2, I2, rz, q2⟩ => ⟨I2.kIn, ?_⟩
  rw [hks]
  have r2 := hb.rel r rz
  exact cal_run (ws := []) (s2 := s2) c.ok hg hr I2 (hb.to s2 us ws I2.kIn (by rw [← r2.length]; exact c.ok.len _ _ _ _ q2)) r2 q2
theorem pe_calK0 (c : Cal X.prog X.w X.K X.mg X.base k x ps f fd sp) (hb : KBinds X.K fd ps ks g gV) (hg : X.A.guards = some []) (hr : Room k X.A) (gl : Gl X x) (hkw : PK X kws tk)
    (hall : (backToKw pos (keywordEach kws X.env)).all (·.1.isSome) = true := by rfl) (hks : (backToKw pos (keywordEach kws X.env)).filterMap (·.1) = ks := by rfl) (hdb : (x == ("__debug__" : Str)) = false := by decide)
    (hpl : ((backTo pos (starEach [] X.env)).any (·.1) || (backToKw pos (keywordEach kws X.env)).any (·.1.isNone)) = false := by rfl) :
    PE X (.Call (.Name x p) [] kws pos) (tCalK sp gV tNil tk) := by
  refine ⟨fun pins s σ H Q I h => wpAny_Call_Name_kw (ld_glob I gl c.g ?_ hdb)⟩
  refine PySem.W.callWith_KW0 (h₀ := X.base) I.ok.mod.kin c.kp hall (thn (hkw.run pos pins s σ H _ I h) fun ws s2 ⟨zs, H2, I2, rz, q2⟩ => ⟨I2.kIn, ?_⟩) hpl
  rw [hks]
  have r2 := hb.rel (vs := []) (us := []) .nil rz
  exact cal_run (ws := []) (s2 := s2) c.ok hg hr I2 (hb.to s2 [] ws I2.kIn (by rw [← r2.length]; exact c.ok.len _ _ _ _ q2)) r2 q2
end
/-! ### repr of data -/
theorem repr_flat {P : Program} {w : World} {A : Around} {E : Value → Shared → Prop} {s : Shared} {u : Value} {d : PyData} {as : List Addr} {Q : Value → Shared → Prop} (r : Reads s.heap u d as) (sh : d.showable = true) (nd : d.hasDict = false) (hg : A.guards = some []) (hu : A.units + (d.depth + 1) < cLine) (sz : d.shown.length ≤ sizeLine)
    (hQ : ∀ h' t tk, (∀ b o, s.heap.get? b = some o → h'.get? b = some o) → Q (.str d.shown t) { s with heap := h', toks := tk }) : wpAny (model P w) A (call (.builtin "repr") [u]) Q E s := by
  have no : ∀ b o, s.heap.get? b = some o → s.heap.get? b = some o := fun _ _ e => e
  cases r with
  | none => exact _root_.PySem.P.repr_of_none (hQ s.heap s.toks (s.toks + 1) no)
  | bool b =>
    refine _root_.PySem.P.repr_of_bool ?_
    cases b
    · exact hQ s.heap s.toks (s.toks + 1) no
    · exact hQ s.heap s.toks (s.toks + 1) no
  | int i t => exact _root_.PySem.P.repr_of_int (of_decide_eq_true sh) (hQ s.heap s.toks (s.toks + 1) no)
  | str x t => exact _root_.PySem.P.repr_of_str (hQ s.heap s.toks (s.toks + 1) no) sz
  | list a b c d => exact PySem.repr_of_reads' (.list a b c d) sh (fun z => by rw [nd] at z; cases z) hg hu no (fun h' t tk z => hQ h' t tk z) sz
  | tuple a b c d => exact PySem.repr_of_reads' (.tuple a b c d) sh (fun z => by rw [nd] at z; cases z) hg hu no (fun h' t tk z => hQ h' t tk z) sz
  | dict a b c d e => cases nd
section
variable {X : Cx} {k : Nat}
/-- repr(x), x data without dicts -/
theorem call_reprD (hg : X.A.guards = some []) (hr : Room k X.A) : CallR X (.builtin "repr") (fun xs H Q => ∃ x d, xs = [x] ∧ Dp X.K H x d ∧ d.showable = true ∧ d.hasDict = false ∧ d.depth ≤ 64 ∧ d.shown.length ≤ sizeLine ∧ Q (.str d.shown) H) := by
  intro pins s σ H xs us Q I r h
  obtain ⟨x, d, rfl, dp, sh, nd, de, sz, q⟩ := h
  obtain ⟨u, rfl, ru⟩ := r.one
  obtain ⟨as, rd⟩ := Dp.reads I d x u dp ru
  have un := hr.un
  exact repr_flat rd sh nd hg (by omega) sz fun h' t tk keep => ⟨.str _, H, I.kept keep, ⟨_, rfl⟩, q⟩
end
def rRepr (K : PySem.W.Frag) : List V → Hp → VK → Prop := fun xs H Q => ∃ x d, xs = [x] ∧ Dp K H x d ∧ d.showable = true ∧ d.hasDict = false ∧ d.depth ≤ 64 ∧ d.shown.length ≤ sizeLine ∧ Q (.str d.shown) H
theorem call_reprDK {X : Cx} {K : PySem.W.Frag} {k : Nat} (h : X.K = K) (hg : X.A.guards = some []) (hr : Room k X.A) : CallR X (.builtin "repr") (rRepr K) := h ▸ call_reprD hg hr
/-! ### the end: the law's promise where the claim's caller calls it -/
theorem end_call {P : Program} {w : World} {K : PySem.W.Frag} {mg mb : Str → Option Value} {k : Nat} {fa a : Addr} {fd : FuncData} {x : Str} {sp : Sp} {s : Shared} {vs : List Value} {ns : List Int}
    (kin : K.In s.heap) (glob : s.heap.Ns mainGlobals mg) (blt : s.heap.Ns builtinsNs mb) (same : ∀ x : Str, x ≠ "__name__" → mb x = bootBuiltins x) (lim : s.heap.NoLimit) (gens : s.gens = #[])
    (obj : s.heap.get? a = some { cls := .type "list", data := .seq vs.toArray }) (numb : IntsAre vs ns) (short : ns.length ≤ sizeLine) (room : Room k callerA)
    (F : ∀ base : Heap, K.In base → base.Ns mainGlobals mg → FnG P w K mg base k fa fd [x] sp) (bind : ∀ (s : Shared) (u : Value), BindsTo s fd ⟨[u], []⟩ [(x, u)])
    (want : ∀ H : Hp, Only H → SqL K H a (ns.map V.int) → sp [.ref a] H (fun v _ => v = .bl true) fun _ _ _ => False) :
    codeAny (model P w) callerA (.call (.ref fa) ⟨[.ref a], []⟩) (fun r s' => r = .ok (.ret (.bool true)) ∧ OldK s.heap s'.heap ∧ s'.os = s.os ∧ AllBare s'.gens) s := by
  have vals := vals_ints numb
  -- one step: whatever part H of the script's object is tracked
  have go : ∀ H : Hp, Only H → SqL K H a (ns.map V.int) → HOk P w H s.heap → (∀ b, H b ≠ none → b = a ∧ K.lookup a = none) →
      codeAny (model P w) callerA (.call (.ref fa) ⟨[.ref a], []⟩) (fun r s' => r = .ok (.ret (.bool true)) ∧ OldK s.heap s'.heap ∧ s'.os = s.os ∧ AllBare s'.gens) s := by
    intro H only sq hok at1
    have untracked : ∀ {b : Addr} {o : Obj} {es : Array DictEntry} {n : Nat}, s.heap.get? b = some o → o.data = .dict es n → H b = none := fun {b o es n} e d => by
      by_cases z : H b = none
      · exact z
      · have e2 := (at1 b z).1
        subst e2
        rw [obj] at e
        cases e
        cases d
    have names : ∀ {b : Addr} {m : Str → Option Value}, s.heap.Ns b m → (hidT s.heap H).Ns b m := fun {b m} ⟨o, es, n, e, d, r⟩ => ⟨o, es, n, hidT_get e (untracked e d), d, r⟩
    have kin2 : K.In (hidT s.heap H) := fun b o e => by
      refine hidT_get (kin b o e) ?_
      by_cases z : H b = none
      · exact z
      · obtain ⟨z1, z2⟩ := at1 b z
        rw [z1, z2] at e
        cases e
    obtain ⟨mc, l1, l2⟩ := lim
    have env : Env0 P w K mg (hidT s.heap H) callerA [] s H :=
      ⟨rfl, ⟨kin2, names glob, ⟨mb, names blt, same⟩, ⟨mc, names l1, l2⟩⟩, fun b o e => of_hidT e, Nat.le_of_eq (hidT_size _ _), trivial, fun b m => absurd (show b ∈ ([] : List Addr) from m) List.not_mem_nil, hok, AllBare.of_eq gens⟩
    refine codeAny_mono ((F _ kin2 (names glob)).run callerA [] s H ⟨[.ref a], []⟩ [.ref a] [.ref a] _ _ rfl room env (bind s (.ref a)) (.cons rfl .nil) (want H only sq)) fun r s' z => ?_
    match r, z with
    | .error _, z => exact z.elim
    | .ok .next, z => exact z.elim
    | .ok .brk, z => exact z.elim
    | .ok .cont, z => exact z.elim
    | .ok (.ret u), ⟨v, H', os, bare, un, hok2, rv, q⟩ =>
      have q : v = .bl true := q
      subst q
      obtain rfl : u = Value.bool true := rv
      refine ⟨rfl, OldK.of_keep fun b o e => ?_, os, bare⟩
      by_cases z : H b = none
      · exact un.keep b o e z (fun m => absurd (show b ∈ ([] : List Addr) from m) List.not_mem_nil) List.not_mem_nil
      · rcases only b with y | ⟨ob, xs, y⟩
        · exact absurd y z
        · have e1 := (hok b _ y).1
          have e2 := (hok2 b _ (un.frzs b ob _ y)).1
          rw [e] at e1
          cases e1
          exact e2
  by_cases hk : K.lookup a = none
  · refine go (fun b => if b = a then some (.frz { cls := .type "list", data := .seq vs.toArray } (.lst (ns.map V.int))) else none) (fun b => ?_) (.inl (.inr ⟨_, if_pos rfl⟩)) (fun b u e => ?_) (fun b e => ?_)
    · by_cases y : b = a
      · exact .inr ⟨_, _, if_pos y⟩
      · exact .inl (if_neg y)
    · by_cases y : b = a
      · cases (if_pos y).symm.trans e
        subst y
        exact ⟨obj, by rw [List.length_map]; exact short, vs, _, vals, obj⟩
      · cases (if_neg y).symm.trans e
    · by_cases y : b = a
      · exact ⟨y, hk⟩
      · exact absurd (if_neg y) e
  · obtain ⟨o, ho⟩ := Option.ne_none_iff_exists'.mp hk
    have e := kin a o ho
    rw [obj] at e
    cases e
    refine go (fun _ => none) (fun _ => .inl rfl) (.inr ⟨_, vs.toArray, _, ho, rfl, rfl, rfl, ?_, vals⟩) (fun b u e => by cases e) (fun b e => absurd rfl e)
    rw [List.size_toArray, numb.length]
    exact short
theorem walk_G {l : PySem.W.OpenLaw} {n k : Nat} {q : Program} {loose : List Str} {XP : (Str → Option Value) → Heap → Prop} {YP : World → Heap → Prop} {d : DefRec} {K : Params → PySem.W.Frag} {sp : PySem.W.Frag → Sp} {x : Str}
    (hn : l.most = some n) (hn2 : n ≤ sizeLine) (hdf : d.params.defaults = []) (hr : Room k callerA) (hY : ∀ (w : World) (h : Heap), YP w h → (K w.params).In h)
    (F : ∀ (w : World) (mg : Str → Option Value) (fa : Addr) (h : Heap), (K w.params).In h → h.Ns mainGlobals mg → mg d.name = some (.ref fa) →
      ∃ fd : FuncData, (∀ (s : Shared) (u : Value), BindsTo s fd ⟨[u], []⟩ [(x, u)]) ∧ ∀ base : Heap, (K w.params).In base → base.Ns mainGlobals mg → FnG l.prog w (K w.params) mg base k fa fd [x] (sp (K w.params)))
    (want : ∀ (K : PySem.W.Frag) (H : Hp) (a : Addr) (ns : List Int), ns.length ≤ n → Only H → SqL K H a (ns.map V.int) → sp K [.ref a] H (fun v _ => v = .bl true) fun _ _ _ => False) :
    PySem.W.WalkO q loose XP YP l.row.toRowW d [] (fun f vs => PySem.call f vs) := by
  refine Att.attach_call hn hdf fun w s0 s mg mb fa o pm cd doc a vs ns G Y _ _ _ hmg obj numb short gens => ?_
  have kin := hY w _ Y
  obtain ⟨fd, bind, ok⟩ := F w mg fa _ kin G.T.g hmg
  exact end_call kin G.T.g G.T.b G.T.builtins G.T.nolimit gens obj numb (Nat.le_trans short hn2) hr ok bind fun H o sq => want _ H a ns short o sq
end Lj
set_option Elab.async false
set_option linter.all false
set_option maxRecDepth 100000
namespace Lj
open PySem PySem.Spec PyProof.Rows L2
/-- the built-ins are not hidden by names of the module -/
structure Bl (mg : Str → Option Value) : Prop where
  len_ : mg "len" = none
  abs_ : mg "abs" = none
  int_ : mg "int" = none
  range_ : mg "range" = none
  max_ : mg "max" = none
  min_ : mg "min" = none
  all_ : mg "all" = none
  sum_ : mg "sum" = none
  list_ : mg "list" = none
  tuple_ : mg "tuple" = none
  isinstance_ : mg "isinstance" = none
  bool_ : mg "bool" = none
  repr_ : mg "repr" = none
  enumerate_ : mg "enumerate" = none
  zip_ : mg "zip" = none
  divmod_ : mg "divmod" = none
theorem Has.none {P : Program} {w : World} {K : PySem.W.Frag} {mg : Str → Option Value} {base : Heap} {k : Nat} {x : Str} {ps : List Str} {sp : Sp} {st : Stmt} (F : At K mg x st ps) (no : ∀ vs H Q E, ¬ sp vs H Q E) : Has P w K mg base k x ps sp := by
  obtain ⟨f, fd, F, b, g⟩ := F
  exact ⟨f, fd, ⟨fun vs H Q E h => absurd h (no vs H Q E), fun A out s H as us vs Q E _ _ _ _ _ h => absurd h (no vs H Q E)⟩, F.kp, b, g, fun_lk F⟩
/-! ### trees: instructions -/
inductive Tr where
  | op (w : Str) (as : List Int)
  | loop (k : Int) (b : List Tr)
mutual
def Tr.len : Tr → Int
  | .op _ _ => 1
  | .loop k b => k * lens b
def lens : List Tr → Int
  | [] => 0
  | t :: r => t.len + lens r
end
mutual
def Tr.inn : Tr → Int
  | .op _ _ => 0
  | .loop _ b => (b.length : Int) + inns b
def inns : List Tr → Int
  | [] => 0
  | t :: r => t.inn + inns r
end
def szs (b : List Tr) : Int := (b.length : Int) + inns b
mutual
def Tr.dep : Tr → Int
  | .op _ _ => 0
  | .loop _ b => 1 + deps b
def deps : List Tr → Int
  | [] => 0
  | t :: r => if t.dep > deps r then t.dep else deps r
end
mutual
def Tr.cnt (w : Str) : Tr → Int
  | .op u _ => if u = w then 1 else 0
  | .loop k b => k * cnts w b
def cnts (w : Str) : List Tr → Int
  | [] => 0
  | t :: r => t.cnt w + cnts w r
end
mutual
/-- what is executed, one after another -/
def Tr.ex : Tr → List Tr
  | .op w as => [.op w as]
  | .loop k b => (List.replicate k.toNat (exs b)).flatten
def exs : List Tr → List Tr
  | [] => []
  | t :: r => t.ex ++ exs r
end
mutual
/-- loops at most n deep, the words of the others not loop -/
def Tr.wf : Tr → Nat → Prop
  | .op w _, _ => w ≠ "loop"
  | .loop _ _, 0 => False
  | .loop k b, n + 1 => 0 ≤ k ∧ k ≤ 10 ^ 18 ∧ b.length ≤ 1000 ∧ wfs b n
def wfs : List Tr → Nat → Prop
  | [], _ => True
  | t :: r, n => t.wf n ∧ wfs r n
end
/-- a body for functions that may go n - 1 loops down -/
def okB : Nat → List Tr → Prop
  | 0, _ => False
  | n + 1, b => wfs b n ∧ b.length ≤ 1000
theorem lens_map : ∀ b : List Tr, lens b = (b.map Tr.len).sum
  | [] => rfl
  | t :: r => by rw [lens, lens_map r, List.map_cons, List.sum_cons]
theorem inns_map : ∀ b : List Tr, inns b = (b.map Tr.inn).sum
  | [] => rfl
  | t :: r => by rw [inns, inns_map r, List.map_cons, List.sum_cons]
theorem cnts_map (w : Str) : ∀ b : List Tr, cnts w b = (b.map (Tr.cnt w)).sum
  | [] => rfl
  | t :: r => by rw [cnts, cnts_map w r, List.map_cons, List.sum_cons]
theorem exs_map : ∀ b : List Tr, exs b = (b.map Tr.ex).flatten
  | [] => rfl
  | t :: r => by rw [exs, exs_map r, List.map_cons, List.flatten_cons]
theorem wfs_get : ∀ {b : List Tr} {n i : Nat} {t : Tr}, wfs b n → b[i]? = some t → t.wf n
  | [], _, _, _, _, e => by simp at e
  | t :: r, n, 0, u, h, e => by
    cases e
    rw [wfs] at h
    exact h.1
  | t :: r, n, i + 1, u, h, e => by
    rw [wfs] at h
    exact wfs_get (i := i) h.2 e
theorem wfs_all : ∀ {b : List Tr} {n : Nat}, (∀ t ∈ b, t.wf n) → wfs b n
  | [], _, _ => by rw [wfs]; trivial
  | t :: r, n, h => by
    rw [wfs]
    exact ⟨h t List.mem_cons_self, wfs_all fun u m => h u (List.mem_cons_of_mem _ m)⟩
theorem okB_loop {b b' : List Tr} {n i : Nat} {k : Int} (h : okB (n + 1) b) (e : b[i]? = some (.loop k b')) : 0 ≤ k ∧ k ≤ 10 ^ 18 ∧ okB n b' := by
  have z := wfs_get h.1 e
  cases n with
  | zero => rw [Tr.wf] at z; exact z.elim
  | succ m =>
    rw [Tr.wf] at z
    exact ⟨z.1, z.2.1, z.2.2.2, z.2.2.1⟩
theorem okB_op {b : List Tr} {n i : Nat} {w : Str} {as : List Int} (h : okB (n + 1) b) (e : b[i]? = some (.op w as)) : w ≠ "loop" := by
  have z := wfs_get h.1 e
  rw [Tr.wf] at z
  exact z
theorem at0 {x : V} {xs : List V} : atI (x :: xs) 0 = some x := atI_nat (j := 0) rfl
theorem sum_next {f : Tr → Int} {b : List Tr} {i : Nat} {t : Tr} (e : b[i]? = some t) : ((b.take (i + 1)).map f).sum = ((b.take i).map f).sum + f t := by
  rw [List.take_add_one, e, List.map_append, List.sum_append]
  show _ + (f t + 0) = _
  rw [Int.add_zero]
theorem map_next {α : Type} {f : Tr → α} {b : List Tr} {i : Nat} {t : Tr} (e : b[i]? = some t) : (b.take (i + 1)).map f = (b.take i).map f ++ [f t] := by
  rw [List.take_add_one, e, List.map_append]
  rfl
/-! ### trees in the heap -/
def Kt (H H' : Hp) : Prop := ∀ a xs, Rd H a (.tup xs) → Rd H' a (.tup xs)
theorem Kt.refl (H : Hp) : Kt H H := fun _ _ h => h
theorem Kt.trans {H H1 H2 : Hp} (a : Kt H H1) (b : Kt H1 H2) : Kt H H2 := fun c o h => b c o (a c o h)
theorem Kt.same {H H' : Hp} (s : Same H H') : Kt H H' := fun a xs h => by
  rcases h with h | ⟨o, h⟩
  · exact .inl (s _ _ h)
  · exact .inr ⟨o, s _ _ h⟩
theorem Kt.but {p : Addr} {H H' : Hp} {xs : List V} (b : But p H H') (e : H p = some (.lst xs)) : Kt H H' := fun a ys h => by
  refine b.rd (fun z => ?_) h
  subst z
  rcases h with h | ⟨o, h⟩
  · rw [e] at h; cases h
  · rw [e] at h; cases h
theorem Urn.kt {p : Addr} {H H' : Hp} (u : Urn H p) (b : But p H H') : Kt H H' := by
  obtain ⟨_, _, e, _⟩ := u
  exact Kt.but b e
theorem Kt.sq {K : PySem.W.Frag} {H H' : Hp} {a : Addr} {xs : List V} (k : Kt H H') (h : SqT K H a xs) : SqT K H' a xs := by
  rcases h with h | h
  · exact .inl (k _ _ h)
  · exact .inr h
mutual
def TrAt (K : PySem.W.Frag) (H : Hp) : Tr → V → Prop
  | .op w as, v => ∃ a, v = .ref a ∧ SqT K H a (.str w :: as.map V.int)
  | .loop k b, v => ∃ a c vs, v = .ref a ∧ SqT K H a [.str "loop", .int k, .ref c] ∧ SqT K H c vs ∧ TrsAt K H b vs
def TrsAt (K : PySem.W.Frag) (H : Hp) : List Tr → List V → Prop
  | [], vs => vs = []
  | t :: r, vs => ∃ v us, vs = v :: us ∧ TrAt K H t v ∧ TrsAt K H r us
end
def BodyAt (K : PySem.W.Frag) (H : Hp) (b : List Tr) (v : V) : Prop := ∃ c vs, v = .ref c ∧ SqT K H c vs ∧ TrsAt K H b vs
mutual
theorem TrAt.kt {K : PySem.W.Frag} {H H' : Hp} (k : Kt H H') : ∀ (t : Tr) (v : V), TrAt K H t v → TrAt K H' t v
  | .op w as, v, h => by
    rw [TrAt] at h ⊢
    obtain ⟨a, e, s⟩ := h
    exact ⟨a, e, k.sq s⟩
  | .loop n b, v, h => by
    rw [TrAt] at h ⊢
    obtain ⟨a, c, vs, e, s, s2, r⟩ := h
    exact ⟨a, c, vs, e, k.sq s, k.sq s2, TrsAt.kt k b vs r⟩
theorem TrsAt.kt {K : PySem.W.Frag} {H H' : Hp} (k : Kt H H') : ∀ (b : List Tr) (vs : List V), TrsAt K H b vs → TrsAt K H' b vs
  | [], vs, h => by
    rw [TrsAt] at h ⊢
    exact h
  | t :: r, vs, h => by
    rw [TrsAt] at h ⊢
    obtain ⟨v, us, e, a, b⟩ := h
    exact ⟨v, us, e, TrAt.kt k t v a, TrsAt.kt k r us b⟩
end
theorem BodyAt.kt {K : PySem.W.Frag} {H H' : Hp} {b : List Tr} {v : V} (k : Kt H H') (h : BodyAt K H b v) : BodyAt K H' b v := by
  obtain ⟨c, vs, e, s, r⟩ := h
  exact ⟨c, vs, e, k.sq s, TrsAt.kt k b vs r⟩
theorem TrsAt.length {K : PySem.W.Frag} {H : Hp} : ∀ {b : List Tr} {vs : List V}, TrsAt K H b vs → vs.length = b.length
  | [], vs, h => by
    rw [TrsAt] at h
    rw [h]
    rfl
  | t :: r, vs, h => by
    rw [TrsAt] at h
    obtain ⟨v, us, rfl, _, k⟩ := h
    rw [List.length_cons, List.length_cons, TrsAt.length k]
theorem TrsAt.get {K : PySem.W.Frag} {H : Hp} : ∀ {b : List Tr} {vs : List V} {i : Nat} {v : V}, TrsAt K H b vs → vs[i]? = some v → ∃ t, b[i]? = some t ∧ TrAt K H t v
  | [], vs, i, v, h, e => by
    rw [TrsAt] at h
    rw [h] at e
    simp at e
  | t :: r, vs, 0, v, h, e => by
    rw [TrsAt] at h
    obtain ⟨v', us, rfl, a, _⟩ := h
    cases e
    exact ⟨t, rfl, a⟩
  | t :: r, vs, i + 1, v, h, e => by
    rw [TrsAt] at h
    obtain ⟨v', us, rfl, _, k⟩ := h
    exact TrsAt.get (i := i) k e
theorem TrsAt.append {K : PySem.W.Frag} {H : Hp} : ∀ {b c : List Tr} {vs us : List V}, TrsAt K H b vs → TrsAt K H c us → TrsAt K H (b ++ c) (vs ++ us)
  | [], c, vs, us, h, k => by
    rw [TrsAt] at h
    rw [h]
    exact k
  | t :: r, c, vs, us, h, k => by
    rw [TrsAt] at h
    obtain ⟨v, ws, rfl, a, l⟩ := h
    show TrsAt K H (t :: (r ++ c)) (v :: (ws ++ us))
    rw [TrsAt]
    exact ⟨v, _, rfl, a, TrsAt.append l k⟩
theorem TrsAt.one {K : PySem.W.Frag} {H : Hp} {t : Tr} {v : V} (h : TrAt K H t v) : TrsAt K H [t] [v] := by
  rw [TrsAt]
  exact ⟨v, [], rfl, h, by rw [TrsAt]⟩
theorem TrsAt.nil {K : PySem.W.Frag} {H : Hp} : TrsAt K H [] [] := by rw [TrsAt]
/-! ### promises about trees -/
def spTI (K : PySem.W.Frag) (ok : List Tr → Prop) (f : List Tr → Int) : Sp := fun vs H Q _ => ∃ v b, vs = [v] ∧ BodyAt K H b v ∧ ok b ∧ ∀ H', Same H H' → Q (.int (f b)) H'
def spII (K : PySem.W.Frag) (ok : Tr → Prop) (f : Tr → Int) : Sp := fun vs H Q _ => ∃ v t, vs = [v] ∧ TrAt K H t v ∧ ok t ∧ ∀ H', Same H H' → Q (.int (f t)) H'
def spWI (K : PySem.W.Frag) (ok : List Tr → Prop) : Sp := fun vs H Q _ => ∃ v b w, vs = [v, .str w] ∧ BodyAt K H b v ∧ ok b ∧ w ≠ "loop" ∧ ∀ H', Same H H' → Q (.int (cnts w b)) H'
theorem same_upd {H H' : Hp} {D : Addr} {o : HO} (s : Same H H') (n : H D = none) : Same H (upd H' D o) := fun b x e => by
  rw [upd_ne (ne_of_none e n)]
  exact s _ _ e
end Lj
namespace Lj
mutual
theorem Tr.dep_nn : ∀ t : Tr, 0 ≤ t.dep
  | .op _ _ => by rw [Tr.dep]; decide
  | .loop _ b => by
    rw [Tr.dep]
    have := deps_nn b
    omega
theorem deps_nn : ∀ b : List Tr, 0 ≤ deps b
  | [] => by rw [deps]; decide
  | t :: r => by
    rw [deps]
    have h1 := Tr.dep_nn t
    have h2 := deps_nn r
    split <;> omega
end
end Lj
set_option Elab.async false
set_option linter.all false
set_option maxRecDepth 100000
namespace Lj
open PySem PySem.Spec PyProof.Rows L2
def prs : List Int := [2, 2, 3, 3, 5, 7, 7, 11, 13, 97, 251, 9973, 10007]
theorem prs_bd {q : Int} (h : q ∈ prs) : 2 ≤ q ∧ q ≤ 10007 := by
  have z : (prs.all fun q => decide (2 ≤ q) && decide (q ≤ 10007)) = true := by decide
  have k := List.all_eq_true.mp z q h
  rw [Bool.and_eq_true] at k
  exact ⟨of_decide_eq_true k.1, of_decide_eq_true k.2⟩
def spPrimeU : Sp := fun vs H Q _ => ∃ p : Addr, vs = [.ref p] ∧ Urn H p ∧ ∀ (q : Int) H', q ∈ prs → Urn H' p → But p H H' → Q (.int q) H'
theorem wide_big {n : Int} (h : n ≤ 10 ^ 40) (h0 : 0 ≤ n) : n.natAbs < wide := by
  have z : (10 ^ 40 : Nat) < wide := by decide +kernel
  omega
/-! ### list.count of texts -/
def eqs (z : Str) (v : Value) : Bool := match v with
  | .str y _ => y == z
  | _ => false
theorem count_strs {z : Str} : ∀ {us : List Value} {ss : List Str}, Vals (ss.map V.str) us → us.countP (eqs z) = ss.count z
  | _, [], .nil => rfl
  | _, s :: ss, .cons ⟨t, rfl⟩ r => by
    rw [List.countP_cons, count_strs r, List.count_cons]
    rfl
theorem mem_strs : ∀ {us : List Value} {ss : List Str} {u : Value}, Vals (ss.map V.str) us → u ∈ us → ∃ s t, u = .str s t
  | _, [], _, .nil, m => by cases m
  | _, s :: ss, u, .cons ⟨t, rfl⟩ r, m => by
    rcases List.mem_cons.mp m with rfl | m
    · exact ⟨s, t, rfl⟩
    · exact mem_strs r m
theorem mt_count_str {X : Cx} : MtR X "list.count" (fun x xs H Q => ∃ (p : Addr) (ss : List Str) (z : Str), x = .ref p ∧ xs = [.str z] ∧ SqL X.K H p (ss.map V.str) ∧ Q (.int (ss.count z : Nat)) H) := by
  intro pins s σ H x xs v us Q I rx rxs h
  obtain ⟨p, ss, z, rfl, rfl, sq, q⟩ := h
  cases rx
  obtain ⟨u, rfl, ⟨t, rfl⟩⟩ := rxs.one
  obtain ⟨its, rv, ⟨⟨cls, dd, data, sl⟩, n, ho, hc, hdn, hd⟩, hlen⟩ := I.list sq
  simp only at hc hd
  subst hc hd
  refine call_meets PySem.F.slot_list_count ⟨_, ho, rfl⟩ PySem.F.entry_list_count (PySem.F.args_list_count_2 _ _) (SeqAt.list_countAt p its.toArray n dd sl (.str z t) (eqs z)) ⟨ho, fun y hy => ?_, ?_⟩
  · obtain ⟨a, b, rfl⟩ := mem_strs rv (by simpa using hy)
    exact eqAt_V (y := .str a) (x := .str z) ⟨b, rfl⟩ ⟨t, rfl⟩ rfl rfl
  · refine ⟨.int (ss.count z : Nat), H, I.tok _, ⟨s.toks, ?_⟩, q⟩
    rw [← count_strs rv]
/-! ### instructions as the laws draw them -/
def W7 : List Str := ["set", "copy", "add", "scale", "swap", "read", "write"]
theorem W7_noloop {w : Str} (h : w ∈ W7) : w ≠ "loop" := by
  have z : (W7.all fun w => !(w == ("loop" : Str))) = true := by decide
  have k := List.all_eq_true.mp z w h
  intro e
  subst e
  revert k
  decide
theorem W7_ok {w : Str} (h : w ∈ W7) : PyData.strOk w = true := by
  have z : (W7.all fun w => PyData.strOk w) = true := by decide +kernel
  exact List.all_eq_true.mp z w h
def GoodOp (p n : Int) (w : Str) (as : List Int) : Prop :=
  ((w = "set" ∨ w = "scale") ∧ ∃ x c, as = [x, c] ∧ 0 ≤ x ∧ x < n ∧ 0 ≤ c ∧ c < p) ∨
  ((w = "read" ∨ w = "write") ∧ ∃ x, as = [x] ∧ 0 ≤ x ∧ x < n) ∨
  ((w = "copy" ∨ w = "swap") ∧ ∃ x y, as = [x, y] ∧ 0 ≤ x ∧ x < n ∧ 0 ≤ y ∧ y < n ∧ x ≠ y) ∨
  (w = "add" ∧ ∃ x y c, as = [x, y, c] ∧ 0 ≤ x ∧ x < n ∧ 0 ≤ y ∧ y < n ∧ x ≠ y ∧ 1 ≤ c ∧ c < p)
theorem GoodOp.w7 {p n : Int} {w : Str} {as : List Int} (h : GoodOp p n w as) : w ∈ W7 := by
  rcases h with ⟨rfl | rfl, _⟩ | ⟨rfl | rfl, _⟩ | ⟨rfl | rfl, _⟩ | ⟨rfl, _⟩ <;> decide
mutual
/-- drawn: at most l instructions, loops at most d deep, half as many within; G: of the others, R: of the rounds -/
def Tr.made (G : Str → List Int → Prop) (R : Int → Prop) : Tr → Nat → Nat → Prop
  | .op w as, _, _ => G w as
  | .loop _ _, _, 0 => False
  | .loop k b, l, d + 1 => R k ∧ b.length ≤ l / 2 ∧ mades G R b (l / 2) d
def mades (G : Str → List Int → Prop) (R : Int → Prop) : List Tr → Nat → Nat → Prop
  | [], _, _ => True
  | t :: r, l, d => t.made G R l d ∧ mades G R r l d
end
theorem mades_append {G : Str → List Int → Prop} {R : Int → Prop} : ∀ {b c : List Tr} {l d : Nat}, mades G R b l d → mades G R c l d → mades G R (b ++ c) l d
  | [], _, _, _, _, k => k
  | t :: r, c, l, d, h, k => by
    rw [mades] at h
    show mades G R (t :: (r ++ c)) l d
    rw [mades]
    exact ⟨h.1, mades_append h.2 k⟩
theorem mades_one {G : Str → List Int → Prop} {R : Int → Prop} {t : Tr} {l d : Nat} (h : t.made G R l d) : mades G R [t] l d := by
  rw [mades, mades]
  exact ⟨h, trivial⟩
theorem mades_nil {G : Str → List Int → Prop} {R : Int → Prop} {l d : Nat} : mades G R [] l d := by
  rw [mades]
  trivial
mutual
theorem Tr.made_wf {G : Str → List Int → Prop} {R : Int → Prop} (hG : ∀ w as, G w as → w ∈ W7) (hR : ∀ k, R k → 0 ≤ k ∧ k ≤ 10 ^ 18) : ∀ (t : Tr) (l d : Nat), l ≤ 1000 → t.made G R l d → t.wf d
  | .op w as, l, d, _, h => by
    rw [Tr.made] at h
    rw [Tr.wf]
    exact W7_noloop (hG w as h)
  | .loop k b, l, 0, _, h => by
    rw [Tr.made] at h
    exact h.elim
  | .loop k b, l, d + 1, hl, h => by
    rw [Tr.made] at h
    rw [Tr.wf]
    exact ⟨(hR k h.1).1, (hR k h.1).2, by omega, mades_wf hG hR b (l / 2) d (by omega) h.2.2⟩
theorem mades_wf {G : Str → List Int → Prop} {R : Int → Prop} (hG : ∀ w as, G w as → w ∈ W7) (hR : ∀ k, R k → 0 ≤ k ∧ k ≤ 10 ^ 18) : ∀ (b : List Tr) (l d : Nat), l ≤ 1000 → mades G R b l d → wfs b d
  | [], _, _, _, _ => by rw [wfs]; trivial
  | t :: r, l, d, hl, h => by
    rw [mades] at h
    rw [wfs]
    exact ⟨Tr.made_wf hG hR t l d hl h.1, mades_wf hG hR r l d hl h.2⟩
end
/-- the most steps that such a body executes, loops of at most 3 rounds -/
def most : Nat → Nat → Nat
  | 0, _ => 1
  | d + 1, l => max 1 (3 * ((l / 2) * most d (l / 2)))
mutual
theorem Tr.made_ex {G : Str → List Int → Prop} {R : Int → Prop} (hR : ∀ k, R k → 0 ≤ k ∧ k ≤ 3) : ∀ (t : Tr) (l d : Nat), t.made G R l d → t.ex.length ≤ most d l
  | .op w as, l, 0, h => by rw [Tr.ex, most]; exact Nat.le_refl 1
  | .op w as, l, d + 1, h => by rw [Tr.ex, most]; exact Nat.le_max_left _ _
  | .loop k b, l, 0, h => by
    rw [Tr.made] at h
    exact h.elim
  | .loop k b, l, d + 1, h => by
    rw [Tr.made] at h
    have ih := mades_ex hR b (l / 2) d h.2.2
    have hk := hR k h.1
    rw [Tr.ex, most, List.length_flatten, List.map_replicate, List.sum_replicate_nat]
    refine Nat.le_trans ?_ (Nat.le_max_right _ _)
    have h1 : (exs b).length ≤ l / 2 * most d (l / 2) := Nat.le_trans ih (Nat.mul_le_mul_right _ h.2.1)
    exact Nat.mul_le_mul (by omega) h1
theorem mades_ex {G : Str → List Int → Prop} {R : Int → Prop} (hR : ∀ k, R k → 0 ≤ k ∧ k ≤ 3) : ∀ (b : List Tr) (l d : Nat), mades G R b l d → (exs b).length ≤ b.length * most d l
  | [], _, _, _ => by rw [exs]; exact Nat.zero_le _
  | t :: r, l, d, h => by
    rw [mades] at h
    have h1 := Tr.made_ex hR t l d h.1
    have h2 := mades_ex hR r l d h.2
    rw [exs, List.length_append, List.length_cons, Nat.succ_mul]
    omega
end
/-! ### what is executed: numbers -/
theorem flat_len {α : Type} (n : Nat) (xs : List α) : ((List.replicate n xs).flatten).length = n * xs.length := by
  rw [List.length_flatten, List.map_replicate, List.sum_replicate_nat]
mutual
theorem Tr.ex_len : ∀ (t : Tr) (d : Nat), t.wf d → (t.ex.length : Int) = t.len
  | .op w as, _, _ => by rw [Tr.ex, Tr.len]; rfl
  | .loop k b, 0, h => by rw [Tr.wf] at h; exact h.elim
  | .loop k b, d + 1, h => by
    rw [Tr.wf] at h
    have ih := exs_len b d h.2.2.2
    rw [Tr.ex, Tr.len, flat_len, ← ih, Int.natCast_mul]
    congr 1
    omega
theorem exs_len : ∀ (b : List Tr) (d : Nat), wfs b d → ((exs b).length : Int) = lens b
  | [], _, _ => by rw [exs, lens]; rfl
  | t :: r, d, h => by
    rw [wfs] at h
    rw [exs, lens, List.length_append, Int.natCast_add, Tr.ex_len t d h.1, exs_len r d h.2]
end
/-- the word of an instruction -/
def Tr.word : Tr → Str
  | .op w _ => w
  | .loop _ _ => "loop"
theorem count_flat (z : Str) (xs : List Tr) : ∀ n : Nat, (((List.replicate n xs).flatten).map Tr.word).count z = n * (xs.map Tr.word).count z
  | 0 => by simp
  | n + 1 => by rw [List.replicate_succ, List.flatten_cons, List.map_append, List.count_append, count_flat z xs n, Nat.succ_mul, Nat.add_comm]
mutual
theorem Tr.ex_cnt (z : Str) : ∀ (t : Tr) (d : Nat), t.wf d → (((t.ex.map Tr.word).count z : Nat) : Int) = t.cnt z
  | .op w as, _, _ => by
    rw [Tr.ex, Tr.cnt]
    show (([w].count z : Nat) : Int) = _
    rw [List.count_singleton]
    by_cases e : w = z
    · rw [if_pos e, if_pos (beq_iff_eq.mpr e)]
      rfl
    · rw [if_neg e, if_neg (fun h => e (beq_iff_eq.mp h))]
      rfl
  | .loop k b, 0, h => by rw [Tr.wf] at h; exact h.elim
  | .loop k b, d + 1, h => by
    rw [Tr.wf] at h
    have ih := exs_cnt z b d h.2.2.2
    rw [Tr.ex, Tr.cnt, count_flat, ← ih, Int.natCast_mul]
    congr 1
    omega
theorem exs_cnt (z : Str) : ∀ (b : List Tr) (d : Nat), wfs b d → ((((exs b).map Tr.word).count z : Nat) : Int) = cnts z b
  | [], _, _ => by rw [exs, cnts]; rfl
  | t :: r, d, h => by
    rw [wfs] at h
    rw [exs, cnts, List.map_append, List.count_append, Int.natCast_add, Tr.ex_cnt z t d h.1, exs_cnt z r d h.2]
end
/-- all are no loops -/
def Ops (b : List Tr) : Prop := ∀ t ∈ b, ∃ w as, t = .op w as ∧ w ∈ W7
mutual
theorem Tr.ex_ops {G : Str → List Int → Prop} {R : Int → Prop} (hG : ∀ w as, G w as → w ∈ W7) : ∀ (t : Tr) (l d : Nat), t.made G R l d → Ops t.ex
  | .op w as, l, d, h => by
    rw [Tr.made] at h
    rw [Tr.ex]
    intro t m
    exact ⟨w, as, List.mem_singleton.mp m, hG w as h⟩
  | .loop k b, l, 0, h => by rw [Tr.made] at h; exact h.elim
  | .loop k b, l, d + 1, h => by
    rw [Tr.made] at h
    rw [Tr.ex]
    intro t m
    obtain ⟨xs, m1, m2⟩ := List.mem_flatten.mp m
    rw [(List.mem_replicate.mp m1).2] at m2
    exact exs_ops hG b (l / 2) d h.2.2 t m2
theorem exs_ops {G : Str → List Int → Prop} {R : Int → Prop} (hG : ∀ w as, G w as → w ∈ W7) : ∀ (b : List Tr) (l d : Nat), mades G R b l d → Ops (exs b)
  | [], _, _, _ => by rw [exs]; intro t m; cases m
  | t :: r, l, d, h => by
    rw [mades] at h
    rw [exs]
    intro u m
    rcases List.mem_append.mp m with m | m
    · exact Tr.ex_ops hG t l d h.1 u m
    · exact exs_ops hG r l d h.2 u m
end
/-! ### data of instructions -/
def Tr.dat : Tr → PyData
  | .op w as => .tuple (.str w :: as.map .int)
  | .loop _ _ => .none
theorem dp_ints {K : PySem.W.Frag} {H : Hp} : ∀ as : List Int, DpAll K H (as.map V.int) (as.map PyData.int)
  | [] => .nil
  | a :: r => .cons (.int a) (dp_ints r)
theorem lay_ints : ∀ as : List Int, PyData.canLayAll0 (as.map PyData.int) = true
  | [] => by rw [List.map_nil, PyData.canLayAll0]
  | a :: r => by rw [List.map_cons, PyData.canLayAll0, PyData.canLay0, lay_ints r]; rfl
theorem depth_ints : ∀ as : List Int, PyData.depthAll (as.map PyData.int) = 0
  | [] => by rw [List.map_nil, PyData.depthAll]
  | a :: r => by rw [List.map_cons, PyData.depthAll, PyData.depth, depth_ints r]; rfl
theorem Ops.dp {K : PySem.W.Frag} {H : Hp} : ∀ {b : List Tr} {vs : List V}, Ops b → TrsAt K H b vs → DpAll K H vs (b.map Tr.dat)
  | [], vs, _, h => by
    rw [TrsAt] at h
    rw [h]
    exact .nil
  | t :: r, vs, o, h => by
    rw [TrsAt] at h
    obtain ⟨v, us, rfl, a, k⟩ := h
    obtain ⟨w, as, rfl, _⟩ := o t List.mem_cons_self
    rw [TrAt] at a
    obtain ⟨x, rfl, sq⟩ := a
    exact .cons (.tup sq (.cons (.str w) (dp_ints as))) (Ops.dp (fun u m => o u (List.mem_cons_of_mem _ m)) k)
theorem Ops.lay : ∀ {b : List Tr}, Ops b → PyData.canLayAll0 (b.map Tr.dat) = true
  | [], _ => by rw [List.map_nil, PyData.canLayAll0]
  | t :: r, o => by
    obtain ⟨w, as, rfl, hw⟩ := o t List.mem_cons_self
    rw [List.map_cons, PyData.canLayAll0, Ops.lay (fun u m => o u (List.mem_cons_of_mem _ m)), Tr.dat, PyData.canLay0, PyData.canLayAll0, PyData.canLay0, W7_ok hw, lay_ints]
    rfl
theorem Ops.deep : ∀ {b : List Tr}, Ops b → PyData.depthAll (b.map Tr.dat) ≤ 1
  | [], _ => by rw [List.map_nil, PyData.depthAll]; exact Nat.zero_le _
  | t :: r, o => by
    obtain ⟨w, as, rfl, hw⟩ := o t List.mem_cons_self
    have ih := Ops.deep (b := r) (fun u m => o u (List.mem_cons_of_mem _ m))
    rw [List.map_cons, PyData.depthAll, Tr.dat, PyData.depth, PyData.depthAll, PyData.depth, depth_ints]
    omega
theorem Ops.shaped {b : List Tr} (o : Ops b) : SeqAt.shaped (.list (b.map Tr.dat)) = true := by
  unfold SeqAt.shaped
  rw [PyData.canLay0, o.lay, PyData.depth, decide_eq_true (by have := o.deep; omega)]
  rfl
theorem shaped_nil : SeqAt.shaped (.list []) = true := by decide
theorem eqv_nil : ∀ b : List PyData, PyData.eqv (.list b) (.list []) = b.isEmpty
  | [] => by rw [PyData.eqv, PyData.eqvAll]; rfl
  | a :: r => by rw [PyData.eqv, PyData.eqvAll]; rfl
theorem inV2 {w a b : Str} : inV (.str w) [.str a, .str b] = true ↔ (w = a ∨ w = b) := by
  show (a == w || (b == w || false)) = true ↔ _
  rw [Bool.or_false, Bool.or_eq_true, beq_iff_eq, beq_iff_eq]
  constructor
  · rintro (h | h)
    · exact .inl h.symm
    · exact .inr h.symm
  · rintro (h | h)
    · exact .inl h.symm
    · exact .inr h.symm
/-! ### promises of the law's own defs -/
def W9 : List Str := ["set", "copy", "copy", "add", "add", "scale", "swap", "read", "write"]
theorem W9_in : ∀ x ∈ W9, x ∈ W7 := by
  have z : (W9.all fun x => W7.contains x) = true := by decide
  intro x m
  exact List.contains_iff_mem.mp (List.all_eq_true.mp z x m)
def spWords : Sp := fun vs H Q _ => vs = [] ∧ ∀ p, H p = none → Q (.ref p) (upd H p (.lst (W9.map V.str)))
def spItem (K : PySem.W.Frag) : Sp := fun vs H Q _ => ∃ (u ws : Addr) (p n : Int) (wl : List Str), vs = [.ref u, .int p, .int n, .ref ws] ∧ Urn H u ∧ 2 ≤ p ∧ p ≤ 10007 ∧ 1 ≤ n ∧ n ≤ 8 ∧ ws ≠ u ∧ SqL K H ws (wl.map V.str) ∧ wl ≠ [] ∧ wl.length ≤ 1000 ∧ (∀ x ∈ wl, x ∈ W7) ∧
  ∀ w as v H', GoodOp p n w as → (w ∈ wl ∨ w = "set") → TrAt K H' (.op w as) v → Urn H' u → But u H H' → Q v H'
def spBody (K : PySem.W.Frag) (d : Nat) : Sp := fun vs H Q _ => ∃ (u ws rs : Addr) (p n : Int) (wl : List Str) (rl : List Int) (l e : Nat), vs = [.ref u, .int p, .int n, .ref ws, .int (l : Int), .int (e : Int), .ref rs] ∧ Urn H u ∧ 2 ≤ p ∧ p ≤ 10007 ∧ 1 ≤ n ∧ n ≤ 8 ∧ ws ≠ u ∧ SqL K H ws (wl.map V.str) ∧ wl ≠ [] ∧ wl.length ≤ 1000 ∧ (∀ x ∈ wl, x ∈ W7) ∧
  rs ≠ u ∧ SqL K H rs (rl.map V.int) ∧ rl ≠ [] ∧ rl.length ≤ 1000 ∧ l ≤ 1000 ∧ e < d ∧
  ∀ b v H', b.length ≤ l → mades (fun w as => GoodOp p n w as ∧ (w ∈ wl ∨ w = "set")) (fun k => k ∈ rl) b l e → BodyAt K H' b v → Urn H' u → But u H H' → Q v H'
mutual
/-- every body within executes a bounded number of steps -/
def Tr.fine : Tr → Prop
  | .op w _ => w ∈ W7
  | .loop _ b => (exs b).length ≤ 100000 ∧ fines b
def fines : List Tr → Prop
  | [] => True
  | t :: r => t.fine ∧ fines r
end
theorem fines_get : ∀ {b : List Tr} {i : Nat} {t : Tr}, fines b → b[i]? = some t → t.fine
  | [], _, _, _, e => by simp at e
  | t :: r, 0, u, h, e => by
    cases e
    rw [fines] at h
    exact h.1
  | t :: r, i + 1, u, h, e => by
    rw [fines] at h
    exact fines_get (i := i) h.2 e
mutual
theorem Tr.fine_ops : ∀ t : Tr, t.fine → Ops t.ex
  | .op w as, h => by
    rw [Tr.fine] at h
    rw [Tr.ex]
    intro t m
    exact ⟨w, as, List.mem_singleton.mp m, h⟩
  | .loop k b, h => by
    rw [Tr.fine] at h
    rw [Tr.ex]
    intro t m
    obtain ⟨xs, m1, m2⟩ := List.mem_flatten.mp m
    rw [(List.mem_replicate.mp m1).2] at m2
    exact fines_ops b h.2 t m2
theorem fines_ops : ∀ b : List Tr, fines b → Ops (exs b)
  | [], _ => by rw [exs]; intro t m; cases m
  | t :: r, h => by
    rw [fines] at h
    rw [exs]
    intro u m
    rcases List.mem_append.mp m with m | m
    · exact Tr.fine_ops t h.1 u m
    · exact fines_ops r h.2 u m
end
theorem most0 : ∀ d, most d 0 = 1
  | 0 => rfl
  | d + 1 => by
    rw [most]
    show max 1 (3 * (0 * _)) = 1
    rw [Nat.zero_mul]
    rfl
theorem most_pos : ∀ d l, 1 ≤ most d l
  | 0, _ => Nat.le_refl 1
  | d + 1, l => by rw [most]; exact Nat.le_max_left _ _
mutual
theorem Tr.made_fine {G : Str → List Int → Prop} {R : Int → Prop} (hG : ∀ w as, G w as → w ∈ W7) (hR : ∀ k, R k → 0 ≤ k ∧ k ≤ 3) : ∀ (t : Tr) (l d : Nat), max 1 l * most d l ≤ 100000 → t.made G R l d → t.fine
  | .op w as, l, d, _, h => by
    rw [Tr.made] at h
    rw [Tr.fine]
    exact hG w as h
  | .loop k b, l, 0, _, h => by rw [Tr.made] at h; exact h.elim
  | .loop k b, l, d + 1, hb, h => by
    rw [Tr.made] at h
    rw [Tr.fine]
    have h1 : 3 * (l / 2 * most d (l / 2)) ≤ 100000 := by
      have h0 : most (d + 1) l ≤ 100000 := Nat.le_trans (Nat.le_mul_of_pos_left _ (by omega)) hb
      rw [most] at h0
      exact Nat.le_trans (Nat.le_max_right _ _) h0
    have h2 := mades_ex hR b (l / 2) d h.2.2
    have h3 : b.length * most d (l / 2) ≤ l / 2 * most d (l / 2) := Nat.mul_le_mul_right _ h.2.1
    refine ⟨by omega, mades_fine hG hR b (l / 2) d ?_ h.2.2⟩
    by_cases z : l / 2 = 0
    · rw [z, most0]
      decide
    · rw [show max 1 (l / 2) = l / 2 by omega]
      omega
theorem mades_fine {G : Str → List Int → Prop} {R : Int → Prop} (hG : ∀ w as, G w as → w ∈ W7) (hR : ∀ k, R k → 0 ≤ k ∧ k ≤ 3) : ∀ (b : List Tr) (l d : Nat), max 1 l * most d l ≤ 100000 → mades G R b l d → fines b
  | [], _, _, _, _ => by rw [fines]; trivial
  | t :: r, l, d, hl, h => by
    rw [mades] at h
    rw [fines]
    exact ⟨Tr.made_fine hG hR t l d hl h.1, mades_fine hG hR r l d hl h.2⟩
end
theorem mades_big {G : Str → List Int → Prop} {R : Int → Prop} (hR : ∀ k, R k → 0 ≤ k ∧ k ≤ 3) {b : List Tr} {l d : Nat} (hl : b.length ≤ l) (hm : max 1 l * most d l ≤ 100000) (h : mades G R b l d) : (exs b).length ≤ 100000 := by
  have h1 := mades_ex hR b l d h
  have h2 : b.length * most d l ≤ max 1 l * most d l := Nat.mul_le_mul_right _ (by omega)
  omega
theorem most84 : max 1 8 * most 4 8 ≤ 100000 := by decide
def spExec (K : PySem.W.Frag) (d : Nat) : Sp := fun vs H Q _ => ∃ v b, vs = [v] ∧ BodyAt K H b v ∧ okB d b ∧ fines b ∧ (exs b).length ≤ 100000 ∧
  ∀ H' l us, Same H H' → H l = none → H' l = some (.lst us) → TrsAt K H' (exs b) us → Q (.ref l) H'
end Lj
set_option Elab.async false
set_option linter.all false
set_option maxRecDepth 100000
namespace Lj
open PySem PySem.Spec PyProof.Rows L2
theorem iteNN {c A B : Prop} [Decidable c] (h : ¬ c) (a : A) : if (!decide c) = true then A else B := by
  rw [decide_eq_false h]
  exact a
/-! ### repr of lists of numbers -/
/-- a number, None, a truth value, shown in a few signs -/
def Leaf (d : PyData) : Prop := d.showable = true ∧ d.hasDict = false ∧ d.depth = 0 ∧ d.shown.length ≤ 1921
theorem leaf_int {i : Int} (h : i.natAbs.log2 < 1920) : Leaf (.int i) := ⟨by rw [PyData.showable]; exact decide_eq_true h, by rw [PyData.hasDict], by rw [PyData.depth], by rw [PyData.shown]; exact int_text_len_1921 h⟩
theorem leaf_none : Leaf .none := ⟨by rw [PyData.showable], by rw [PyData.hasDict], by rw [PyData.depth], by rw [PyData.shown]; decide⟩
theorem leaf_all : ∀ {ds : List PyData}, (∀ d ∈ ds, Leaf d) → PyData.showableAll ds = true ∧ PyData.hasDictAll ds = false ∧ PyData.depthAll ds = 0 ∧ ((PyData.shownAll ds).map (·.length)).sum ≤ 1921 * ds.length ∧ (PyData.shownAll ds).length = ds.length
  | [], _ => ⟨by rw [PyData.showableAll], by rw [PyData.hasDictAll], by rw [PyData.depthAll], by rw [PyData.shownAll]; exact Nat.zero_le _, by rw [PyData.shownAll]; rfl⟩
  | d :: r, h => by
    obtain ⟨a1, a2, a3, a4⟩ := h d List.mem_cons_self
    obtain ⟨b1, b2, b3, b4, b5⟩ := leaf_all (ds := r) fun x m => h x (List.mem_cons_of_mem _ m)
    refine ⟨by rw [PyData.showableAll, a1, b1]; rfl, by rw [PyData.hasDictAll, a2, b2]; rfl, by rw [PyData.depthAll, a3, b3]; rfl, ?_, by rw [PyData.shownAll, List.length_cons, b5, List.length_cons]⟩
    rw [PyData.shownAll, List.map_cons, List.sum_cons, List.length_cons]
    omega
theorem leaf_list {ds : List PyData} (h : ∀ d ∈ ds, Leaf d) (n : ds.length ≤ 8000) : (PyData.list ds).showable = true ∧ (PyData.list ds).hasDict = false ∧ (PyData.list ds).depth ≤ 64 ∧ (PyData.list ds).shown.length ≤ sizeLine := by
  obtain ⟨b1, b2, b3, b4, b5⟩ := leaf_all h
  refine ⟨by rw [PyData.showable]; exact b1, by rw [PyData.hasDict]; exact b2, by rw [PyData.depth, b3]; decide, ?_⟩
  rw [PyData.shown, sizeLine_eq]
  have := PySem.listText_len_le (PyData.shownAll ds)
  omega
theorem dp_int_list {K : PySem.W.Frag} {H : Hp} {a : Addr} {ns : List Int} (h : SqL K H a (ns.map V.int)) : Dp K H (.ref a) (.list (ns.map PyData.int)) := .lst h (dp_ints ns)
theorem log_of {i : Int} {k : Nat} (h : i.natAbs < 2 ^ k) (k0 : 0 < k) (k1 : k ≤ 1920) : i.natAbs.log2 < 1920 := Nat.lt_of_lt_of_le (PySem.Flt.log2_lt_of k0 h) k1
theorem leaf_ints {ns : List Int} (h : ∀ n ∈ ns, n.natAbs < 2 ^ 1000) : ∀ d ∈ ns.map PyData.int, Leaf d := by
  intro d m
  obtain ⟨n, hn, rfl⟩ := List.mem_map.mp m
  exact leaf_int (log_of (h n hn) (by decide) (by decide))
/-! ### bounds -/
def top : Nat → Int
  | 0 => 1
  | d + 1 => 10 ^ 18 * (1000 * top d)
theorem top_pos : ∀ d, 1 ≤ top d
  | 0 => by decide
  | d + 1 => by
    have := top_pos d
    rw [top]
    omega
mutual
theorem Tr.len_bd : ∀ (t : Tr) (d : Nat), t.wf d → 0 ≤ t.len ∧ t.len ≤ top d
  | .op w as, d, _ => by
    rw [Tr.len]
    exact ⟨by decide, top_pos d⟩
  | .loop k b, 0, h => by rw [Tr.wf] at h; exact h.elim
  | .loop k b, d + 1, h => by
    rw [Tr.wf] at h
    obtain ⟨i0, i1⟩ := lens_bd b d h.2.2.2
    have tp := top_pos d
    have i2 : lens b ≤ 1000 * top d := Int.le_trans i1 (Int.mul_le_mul_of_nonneg_right (by omega) (by omega))
    rw [Tr.len, top]
    exact ⟨Int.mul_nonneg h.1 i0, Int.mul_le_mul h.2.1 i2 i0 (by decide)⟩
theorem lens_bd : ∀ (b : List Tr) (d : Nat), wfs b d → 0 ≤ lens b ∧ lens b ≤ (b.length : Int) * top d
  | [], d, _ => by rw [lens]; exact ⟨by decide, by simp⟩
  | t :: r, d, h => by
    rw [wfs] at h
    obtain ⟨a0, a1⟩ := Tr.len_bd t d h.1
    obtain ⟨b0, b1⟩ := lens_bd r d h.2
    rw [lens, List.length_cons]
    refine ⟨by omega, ?_⟩
    rw [show ((r.length + 1 : Nat) : Int) = (r.length : Int) + 1 from rfl, Int.add_mul, Int.one_mul]
    omega
end
mutual
theorem Tr.cnt_bd (z : Str) : ∀ (t : Tr) (d : Nat), t.wf d → 0 ≤ t.cnt z ∧ t.cnt z ≤ t.len
  | .op w as, d, _ => by
    rw [Tr.len, Tr.cnt]
    split <;> exact ⟨by decide, by decide⟩
  | .loop k b, 0, h => by rw [Tr.wf] at h; exact h.elim
  | .loop k b, d + 1, h => by
    rw [Tr.wf] at h
    obtain ⟨i0, i1⟩ := cnts_bd z b d h.2.2.2
    rw [Tr.len, Tr.cnt]
    exact ⟨Int.mul_nonneg h.1 i0, Int.mul_le_mul_of_nonneg_left i1 h.1⟩
theorem cnts_bd (z : Str) : ∀ (b : List Tr) (d : Nat), wfs b d → 0 ≤ cnts z b ∧ cnts z b ≤ lens b
  | [], d, _ => by rw [lens, cnts]; exact ⟨by decide, by decide⟩
  | t :: r, d, h => by
    rw [wfs] at h
    obtain ⟨a0, a1⟩ := Tr.cnt_bd z t d h.1
    obtain ⟨b0, b1⟩ := cnts_bd z r d h.2
    rw [lens, cnts]
    omega
end
mutual
theorem Tr.inn_bd : ∀ (t : Tr) (d : Nat), t.wf d → 0 ≤ t.inn ∧ t.inn ≤ top d
  | .op w as, d, _ => by
    rw [Tr.inn]
    have := top_pos d
    omega
  | .loop k b, 0, h => by rw [Tr.wf] at h; exact h.elim
  | .loop k b, d + 1, h => by
    rw [Tr.wf] at h
    obtain ⟨i0, i1⟩ := inns_bd b d h.2.2.2
    have tp := top_pos d
    have i2 : inns b ≤ 1000 * top d := Int.le_trans i1 (Int.mul_le_mul_of_nonneg_right (by omega) (by omega))
    rw [Tr.inn, top]
    omega
theorem inns_bd : ∀ (b : List Tr) (d : Nat), wfs b d → 0 ≤ inns b ∧ inns b ≤ (b.length : Int) * top d
  | [], d, _ => by rw [inns]; exact ⟨by decide, by simp⟩
  | t :: r, d, h => by
    rw [wfs] at h
    obtain ⟨a0, a1⟩ := Tr.inn_bd t d h.1
    obtain ⟨b0, b1⟩ := inns_bd r d h.2
    rw [inns, List.length_cons]
    refine ⟨by omega, ?_⟩
    rw [show ((r.length + 1 : Nat) : Int) = (r.length : Int) + 1 from rfl, Int.add_mul, Int.one_mul]
    omega
end
mutual
theorem Tr.dep_bd : ∀ (t : Tr) (d : Nat), t.wf d → t.dep ≤ d
  | .op w as, d, _ => by rw [Tr.dep]; omega
  | .loop k b, 0, h => by rw [Tr.wf] at h; exact h.elim
  | .loop k b, d + 1, h => by
    rw [Tr.wf] at h
    have := deps_bd b d h.2.2.2
    rw [Tr.dep]
    omega
theorem deps_bd : ∀ (b : List Tr) (d : Nat), wfs b d → deps b ≤ d
  | [], d, _ => by rw [deps]; omega
  | t :: r, d, h => by
    rw [wfs] at h
    have h1 := Tr.dep_bd t d h.1
    have h2 := deps_bd r d h.2
    rw [deps]
    split <;> omega
end
theorem lens_log {b : List Tr} {d : Nat} (h : okB (d + 1) b) (hd : d ≤ 6) : (lens b).natAbs < 2 ^ 1000 := by
  obtain ⟨h0, h1⟩ := lens_bd b d h.1
  have tp := top_pos d
  have h2 : lens b ≤ 1000 * top d := Int.le_trans h1 (Int.mul_le_mul_of_nonneg_right (by have := h.2; omega) (by omega))
  have h3 : 1000 * top d < 2 ^ 1000 := by
    have : d = 0 ∨ d = 1 ∨ d = 2 ∨ d = 3 ∨ d = 4 ∨ d = 5 ∨ d = 6 := by omega
    rcases this with rfl | rfl | rfl | rfl | rfl | rfl | rfl <;> decide +kernel
  omega
/-! ### once, and with great rounds -/
mutual
def Tr.once : Tr → Tr
  | .op w as => .op w as
  | .loop _ b => .loop 1 (onces b)
def onces : List Tr → List Tr
  | [] => []
  | t :: r => t.once :: onces r
end
theorem onces_map : ∀ b : List Tr, onces b = b.map Tr.once
  | [] => by rw [onces]; rfl
  | t :: r => by rw [onces, onces_map r]; rfl
mutual
theorem Tr.made_once {G : Str → List Int → Prop} {R : Int → Prop} : ∀ (t : Tr) (l d : Nat), t.made G R l d → t.once.made G (fun k => k = 1) l d
  | .op w as, l, d, h => by
    rw [Tr.made] at h
    rw [Tr.once, Tr.made]
    exact h
  | .loop k b, l, 0, h => by rw [Tr.made] at h; exact h.elim
  | .loop k b, l, d + 1, h => by
    rw [Tr.made] at h
    rw [Tr.once, Tr.made]
    exact ⟨rfl, by rw [onces_map, List.length_map]; exact h.2.1, mades_once b (l / 2) d h.2.2⟩
theorem mades_once {G : Str → List Int → Prop} {R : Int → Prop} : ∀ (b : List Tr) (l d : Nat), mades G R b l d → mades G (fun k => k = 1) (onces b) l d
  | [], l, d, _ => by rw [onces]; exact mades_nil
  | t :: r, l, d, h => by
    rw [mades] at h
    rw [onces, mades]
    exact ⟨Tr.made_once t l d h.1, mades_once r l d h.2⟩
end
/-- no step of the word z, were each loop executed once -/
def NoW (z : Str) (b : List Tr) : Prop := z ∉ (exs (onces b)).map Tr.word
mutual
theorem Tr.noW (z : Str) : ∀ t : Tr, z ∉ (t.once.ex).map Tr.word → t.cnt z = 0
  | .op w as, h => by
    rw [Tr.once, Tr.ex] at h
    rw [Tr.cnt, if_neg]
    intro e
    exact h (by subst e; exact List.mem_singleton.mpr rfl)
  | .loop k b, h => by
    rw [Tr.once, Tr.ex] at h
    rw [Tr.cnt, noWs z b (by
      intro m
      refine h ?_
      show z ∈ (List.flatten [exs (onces b)]).map Tr.word
      rw [List.flatten_cons, List.flatten_nil, List.append_nil]
      exact m), Int.mul_zero]
theorem noWs (z : Str) : ∀ b : List Tr, NoW z b → cnts z b = 0
  | [], _ => by rw [cnts]
  | t :: r, h => by
    unfold NoW at h
    rw [onces, exs, List.map_append, List.mem_append] at h
    rw [cnts, Tr.noW z t (fun m => h (.inl m)), noWs z r (fun m => h (.inr m))]
    rfl
end
mutual
/-- the same but for rounds, and these only where nothing is read or written -/
def Tr.gr : Tr → Tr → Prop
  | .op w as, t => t = .op w as
  | .loop k b, t => ∃ k' b', t = .loop k' b' ∧ 0 ≤ k' ∧ k' ≤ 10 ^ 18 ∧ grs b b' ∧ (k' = k ∨ (NoW "read" b' ∧ NoW "write" b'))
def grs : List Tr → List Tr → Prop
  | [], g => g = []
  | t :: r, g => ∃ t' r', g = t' :: r' ∧ t.gr t' ∧ grs r r'
end
theorem grs_snoc : ∀ {b g : List Tr} {t t' : Tr}, grs b g → t.gr t' → grs (b ++ [t]) (g ++ [t'])
  | [], g, t, t', h, k => by
    rw [grs] at h
    rw [h]
    show grs [t] [t']
    rw [grs]
    exact ⟨t', [], rfl, k, by rw [grs]⟩
  | a :: r, g, t, t', h, k => by
    rw [grs] at h
    obtain ⟨a', r', rfl, h1, h2⟩ := h
    show grs (a :: (r ++ [t])) (a' :: (r' ++ [t']))
    rw [grs]
    exact ⟨a', _, rfl, h1, grs_snoc h2 k⟩
mutual
theorem Tr.gr_all : ∀ (t t' : Tr), t.gr t' → t'.once = t.once ∧ t'.inn = t.inn ∧ t'.dep = t.dep ∧ (∀ d, t.wf d → t'.wf d) ∧ (∀ G R l d, t.made G R l d → t'.made G (fun k => R k ∨ (0 ≤ k ∧ k ≤ 10 ^ 18)) l d) ∧ ((t.cnt "read" = t'.cnt "read") ∧ (t.cnt "write" = t'.cnt "write"))
  | .op w as, t', h => by
    rw [Tr.gr] at h
    subst h
    refine ⟨rfl, rfl, rfl, fun _ h => h, fun G R l d h => ?_, rfl, rfl⟩
    rw [Tr.made] at h ⊢
    exact h
  | .loop k b, t', h => by
    rw [Tr.gr] at h
    obtain ⟨k', b', rfl, k0, k1, hg, hk⟩ := h
    obtain ⟨e1, e2, e3, e4, e5, e6, e7⟩ := grs_all b b' hg
    refine ⟨by rw [Tr.once, Tr.once, e1], by rw [Tr.inn, Tr.inn, e2, e7.1], by rw [Tr.dep, Tr.dep, e3], fun d h => ?_, fun G R l d h => ?_, ?_⟩
    · cases d with
      | zero => rw [Tr.wf] at h; exact h.elim
      | succ d =>
        rw [Tr.wf] at h ⊢
        exact ⟨k0, k1, by rw [e7.1]; exact h.2.2.1, e4 d h.2.2.2⟩
    · cases d with
      | zero => rw [Tr.made] at h; exact h.elim
      | succ d =>
        rw [Tr.made] at h ⊢
        exact ⟨.inr ⟨k0, k1⟩, by rw [e7.1]; exact h.2.1, e5 G R _ _ h.2.2⟩
    · rw [Tr.cnt, Tr.cnt, Tr.cnt, Tr.cnt]
      rcases hk with rfl | ⟨n1, n2⟩
      · rw [e6.1, e6.2]
        exact ⟨rfl, rfl⟩
      · rw [e6.1, e6.2, noWs _ b' n1, noWs _ b' n2, Int.mul_zero, Int.mul_zero]
        exact ⟨rfl, rfl⟩
theorem grs_all : ∀ (b g : List Tr), grs b g → onces g = onces b ∧ inns g = inns b ∧ deps g = deps b ∧ (∀ d, wfs b d → wfs g d) ∧ (∀ G R l d, mades G R b l d → mades G (fun k => R k ∨ (0 ≤ k ∧ k ≤ 10 ^ 18)) g l d) ∧ ((cnts "read" b = cnts "read" g) ∧ (cnts "write" b = cnts "write" g)) ∧ (g.length = b.length ∧ True)
  | [], g, h => by
    rw [grs] at h
    subst h
    exact ⟨rfl, rfl, rfl, fun _ h => h, fun _ _ _ _ _ => mades_nil, ⟨rfl, rfl⟩, rfl, trivial⟩
  | t :: r, g, h => by
    rw [grs] at h
    obtain ⟨t', r', rfl, h1, h2⟩ := h
    obtain ⟨a1, a2, a3, a4, a5, a6⟩ := Tr.gr_all t t' h1
    obtain ⟨e1, e2, e3, e4, e5, e6, e7⟩ := grs_all r r' h2
    refine ⟨by rw [onces, onces, a1, e1], by rw [inns, inns, a2, e2], by rw [deps, deps, a3, e3], fun d h => ?_, fun G R l d h => ?_, ⟨by rw [cnts, cnts, a6.1, e6.1], by rw [cnts, cnts, a6.2, e6.2]⟩, by rw [List.length_cons, List.length_cons, e7.1], trivial⟩
    · rw [wfs] at h ⊢
      exact ⟨a4 d h.1, e4 d h.2⟩
    · rw [mades] at h ⊢
      exact ⟨a5 G R l d h.1, e5 G R l d h.2⟩
end
theorem shaped_ints (ns : List Int) : SeqAt.shaped (.list (ns.map PyData.int)) = true := by
  unfold SeqAt.shaped
  rw [PyData.canLay0, lay_ints, PyData.depth, depth_ints]
  rfl
theorem same_but {H H1 H2 : Hp} {u : Addr} (s : Same H H1) (n : H u = none) (b : But u H1 H2) : Same H H2 := fun x o e => b x o (ne_of_none e n) (s x o e)
/-- one parameter, given by its name -/
theorem kb1 {K : PySem.W.Frag} {x p : Str} {st : Stmt} {f : Addr} {fd : FuncData} (F : Fun K x x st f fd)
    (h : ∀ (kV doc pm : Value) (an : Option Addr) (cdv ct u : Value), bindArgs (PySem.W.fnOf x x (defArgs st) (defBody st) (defScope st) .none kV doc pm an cdv ct) ⟨[], [(p, u)]⟩ = pure [(p, u)]) :
    KBinds K fd [p] [p] (fun us ws => if us.isEmpty then ws else []) (fun us ws => if us.isEmpty then ws else []) := by
  obtain ⟨oc, od, kV, doc, pm, an, cdv, ct, osl, rfl, lk, hcd⟩ := F.ex
  refine ⟨fun s us ws _ hl => ?_, fun {vs us zs ws} r rz => ?_⟩
  · cases us with
    | cons u r =>
      rw [show (u :: r).isEmpty = false from rfl, if_neg Bool.false_ne_true] at hl
      cases hl
    | nil =>
      match ws, hl with
      | [_], _ => exact .of_eq (h ..)
  · cases r with
    | nil => exact rz
    | cons _ _ => exact .nil
end Lj
namespace Lj
mutual
theorem Tr.wf_up : ∀ (t : Tr) (n : Nat), t.wf n → t.wf (n + 1)
  | .op w as, n, h => by
    rw [Tr.wf] at h ⊢
    exact h
  | .loop k b, 0, h => by rw [Tr.wf] at h; exact h.elim
  | .loop k b, n + 1, h => by
    rw [Tr.wf] at h ⊢
    exact ⟨h.1, h.2.1, h.2.2.1, wfs_up' b n h.2.2.2⟩
theorem wfs_up' : ∀ (b : List Tr) (n : Nat), wfs b n → wfs b (n + 1)
  | [], n, _ => by rw [wfs]; trivial
  | t :: r, n, h => by
    rw [wfs] at h ⊢
    exact ⟨Tr.wf_up t n h.1, wfs_up' r n h.2⟩
end
theorem wfs_up {b : List Tr} {n : Nat} (h : wfs b n) : wfs b (n + 1) := wfs_up' b n h
end Lj
set_option Elab.async false
set_option linter.all false
set_option maxRecDepth 100000
namespace Lj
open PySem PySem.Spec PyProof.Rows L2
/-! ### data of any kind, dicts too -/
def kD : Key → PyData
  | .inl i => .int i
  | .inr x => .str x
mutual
inductive Dd (K : PySem.W.Frag) (H : Hp) : V → PyData → Prop
  | non : Dd K H .non .none
  | bl (b : Bool) : Dd K H (.bl b) (.bool b)
  | int (i : Int) : Dd K H (.int i) (.int i)
  | str (x : Str) : Dd K H (.str x) (.str x)
  | lst {a : Addr} {xs : List V} {ds : List PyData} (q : SqL K H a xs) (r : DdAll K H xs ds) : Dd K H (.ref a) (.list ds)
  | tup {a : Addr} {xs : List V} {ds : List PyData} (q : SqT K H a xs) (r : DdAll K H xs ds) : Dd K H (.ref a) (.tuple ds)
  | dct {a : Addr} {kvs : List (Key × V)} {kds : List (PyData × PyData)} (q : H a = some (.dK kvs)) (e : kvs.map (fun kv => kD kv.1) = kds.map (·.1)) (r : DdAll K H (kvs.map (·.2)) (kds.map (·.2))) : Dd K H (.ref a) (.dict kds)
inductive DdAll (K : PySem.W.Frag) (H : Hp) : List V → List PyData → Prop
  | nil : DdAll K H [] []
  | cons {v : V} {vs : List V} {d : PyData} {ds : List PyData} (h : Dd K H v d) (t : DdAll K H vs ds) : DdAll K H (v :: vs) (d :: ds)
end
section
variable {X : Cx} {pins : List (Addr × Obj)} {σ : L2.St} {H : Hp} {s : Shared}
/-- the keys of a dict, as texts -/
theorem keys_show {P : Program} {w : World} {h : Heap} {n : Nat} : ∀ {es : List DictEntry} {vs : List (Key × Value)} {ks : List PyData}, Pairs (mixKind P w) es vs → vs.map (fun kv => kD kv.1) = ks → PyData.showableAll ks = true → (∀ t ∈ PyData.shownAll ks, t.length ≤ sizeLine) →
    (∃ as, ReadsAll h (es.map (·.key)) ks as) ∧ ReprAllK P w [] h n (es.map (·.key)) (PyData.shownAll ks) := by
  intro es vs ks hp
  induction hp generalizing ks with
  | nil =>
    rintro rfl _ _
    exact ⟨⟨_, .nil⟩, .nil⟩
  | @cons e kv es kvs hk hv _ ih =>
    rintro rfl hs hz
    simp only [List.map_cons, PyData.showableAll, Bool.and_eq_true] at hs
    obtain ⟨⟨as, i1⟩, i2⟩ := ih rfl hs.2 fun t m => hz t (by simp only [List.map_cons, PyData.shownAll]; exact List.mem_cons_of_mem _ m)
    have hz0 := hz (kD kv.1).shown (by simp only [List.map_cons, PyData.shownAll]; exact List.mem_cons_self ..)
    rcases keyIs_shape hk with ⟨i, t, e1, e2⟩ | ⟨x, t, e1, e2⟩
    · rw [e1] at hs hz0
      refine ⟨⟨[] ++ as, ?_⟩, ?_⟩
      · simp only [List.map_cons, e1, e2]
        exact .cons (.int i t) i1
      · simp only [List.map_cons, e1, e2, PyData.shownAll]
        exact .cons (.of_is (ReprIs.int t (of_decide_eq_true hs.1)) _ _ _) i2
    · rw [e1] at hs hz0
      refine ⟨⟨[] ++ as, ?_⟩, ?_⟩
      · simp only [List.map_cons, e1, e2]
        exact .cons (.str x t) i1
      · simp only [List.map_cons, e1, e2, PyData.shownAll]
        exact .cons (.of_is (ReprIs.str x t hz0) _ _ _) i2
theorem vals_of_pairs {P : Program} {w : World} : ∀ {es : List DictEntry} {vs : List (Key × Value)} {kvs : List (Key × V)}, Pairs (mixKind P w) es vs → KV kvs vs → Vals (kvs.map (·.2)) (es.map (·.val)) ∧ vs.map (fun kv => kD kv.1) = kvs.map (fun kv => kD kv.1) := by
  intro es vs kvs hp
  induction hp generalizing kvs with
  | nil =>
    intro r
    cases r
    exact ⟨.nil, rfl⟩
  | @cons e kv es vs hk hv _ ih =>
    intro r
    cases r with
    | @cons p _ ps _ h t =>
      obtain ⟨i1, i2⟩ := ih t
      exact ⟨.cons (by show RelV p.2 e.val; rw [hv]; exact h.2) i1, by simp only [List.map_cons, i2, h.1]⟩
/-- what is known of a thing to be shown -/
def Sho (P : Program) (w : World) (h : Heap) (u : Value) (d : PyData) : Prop := (∃ as, Reads h u d as) ∧ ∃ bs, ReadAtMost h d.depth bs ∧ ReprK P w bs h d.depth u d.shown
def ShoAll (P : Program) (w : World) (h : Heap) (us : List Value) (ds : List PyData) : Prop := (∃ as, ReadsAll h us ds as) ∧ ∃ bs, ReadAtMost h (PyData.depthAll ds) bs ∧ ReprAllK P w bs h (PyData.depthAll ds) us (PyData.shownAll ds)
theorem no_at {h : Heap} {n : Nat} : ReadAtMost h n [] := fun _ m => nomatch m
mutual
theorem Dd.sho (I : Inv X pins σ H s) : ∀ {v : V} {d : PyData} {u : Value}, Dd X.K H v d → RelV v u → d.showable = true → d.shown.length ≤ sizeLine → Sho X.prog X.w s.heap u d
  | _, _, _, .non, r, _, _ => by
    cases r
    exact ⟨⟨_, .none⟩, [], no_at, .of_is ReprIs.none _ _ _⟩
  | _, _, _, .bl b, r, _, _ => by
    cases r
    exact ⟨⟨_, .bool b⟩, [], no_at, .of_is (ReprIs.bool b) _ _ _⟩
  | _, _, _, .int i, r, hs, _ => by
    obtain ⟨t, rfl⟩ := r
    exact ⟨⟨_, .int i t⟩, [], no_at, .of_is (ReprIs.int t (of_decide_eq_true hs)) _ _ _⟩
  | _, _, _, .str x, r, _, hz => by
    obtain ⟨t, rfl⟩ := r
    exact ⟨⟨_, .str x t⟩, [], no_at, .of_is (ReprIs.str x t hz) _ _ _⟩
  | _, _, _, .lst (a := a) (xs := xs) (ds := ds) q rr, r, hs, hz => by
    cases r
    obtain ⟨its, rv, ⟨o, n, ho, hc, _, hd⟩, _⟩ := I.list q
    obtain ⟨⟨as, rd⟩, bs, rb, rk⟩ := Dd.shoAll I rr rv hs fun t m => Nat.le_trans (listText_mem_le m) hz
    have top : Reads s.heap (.ref a) (.list ds) (a :: as) := .list ho hc hd rd
    refine ⟨⟨_, top⟩, a :: bs, ReadAtMost.cons top (Nat.le_succ _) rb, ?_⟩
    cases its with
    | nil =>
      cases rd
      exact ReprK.listEmpty ho hc hd
    | cons x l => exact ReprK.list ho hc hd (not_mem_of_deeper top (Nat.lt_succ_self _) rb) rk.length_eq fun i y e => rk.item i y (by rw [List.getElem?_toArray] at e; exact e)
  | _, _, _, .tup (a := a) (xs := xs) (ds := ds) q rr, r, hs, hz => by
    cases r
    obtain ⟨its, rv, ⟨o, ho, hc, n, hd⟩, _⟩ := I.tuple q
    obtain ⟨⟨as, rd⟩, bs, rb, rk⟩ := Dd.shoAll I rr rv hs fun t m => Nat.le_trans (tupleText_mem_le m) hz
    have top : Reads s.heap (.ref a) (.tuple ds) as := .tuple ho hc hd rd
    exact ⟨⟨_, top⟩, a :: bs, ReadAtMost.cons top (Nat.le_succ _) rb, ReprK.tuple ho hc hd (not_mem_of_deeper top (Nat.lt_succ_self _) rb) rk⟩
  | _, _, _, .dct (a := a) (kvs := kvs) (kds := kds) q e rr, r, hs, hz => by
    cases r
    obtain ⟨_, hsys, vs, kv, o, es, ep, ho, hc, hd, _, hp, _⟩ := (show ObjOk X.prog X.w H s.heap a (.dK kvs) from I.hok a _ q)
    obtain ⟨s1, s2⟩ := PyData.showableKv_split kds hs
    obtain ⟨v1, v2⟩ := vals_of_pairs hp kv
    obtain ⟨⟨as, rd⟩, bs, rb, rk⟩ := Dd.shoAll I rr v1 s2 fun t m => by
      obtain ⟨p, mp, hl⟩ := PyData.shownKv_val_le kds t m
      exact Nat.le_trans hl (Nat.le_trans (dictText_mem_le mp) hz)
    obtain ⟨⟨as2, kr⟩, kk⟩ := keys_show (h := s.heap) (n := PyData.depthKv kds) hp (v2.trans e) s1 fun t m => by
      obtain ⟨p, mp, hl⟩ := PyData.shownKv_key_le kds t m
      exact Nat.le_trans hl (Nat.le_trans (dictText_mem_le mp) hz)
    have top : Reads s.heap (.ref a) (.dict kds) (a :: as2 ++ as) := .dict ho hc.1 hd kr rd
    have rb' := rb.mono (PyData.depthAll_vals_le kds)
    refine ⟨⟨_, top⟩, a :: bs, ReadAtMost.cons top (Nat.le_succ _) rb', ?_⟩
    have nm : a ∉ bs := not_mem_of_deeper top (Nat.lt_succ_self _) rb'
    have en := ReprEntriesK.of_two es.toList _ _ (kk.more_le (fun b (hb : b ∈ ([] : List Addr)) => absurd hb List.not_mem_nil) (Nat.le_refl _)) (rk.more_le (fun b hb => hb) (PyData.depthAll_vals_le kds))
    rw [← PyData.shownKv_eq] at en
    exact ReprK.dict ho hc.1 hd hsys nm en
theorem Dd.shoAll (I : Inv X pins σ H s) : ∀ {vs : List V} {ds : List PyData} {us : List Value}, DdAll X.K H vs ds → Vals vs us → PyData.showableAll ds = true → (∀ t ∈ PyData.shownAll ds, t.length ≤ sizeLine) → ShoAll X.prog X.w s.heap us ds
  | _, _, _, .nil, r, _, _ => by
    cases r
    exact ⟨⟨_, .nil⟩, [], no_at, .nil⟩
  | _, _, _, .cons (d := d) (ds := ds) h t, .cons r1 r2, hs, hz => by
    have hs' : (d.showable && PyData.showableAll ds) = true := hs
    rw [Bool.and_eq_true] at hs'
    obtain ⟨⟨as, a1⟩, bs, b1, k1⟩ := Dd.sho I h r1 hs'.1 (hz _ (List.mem_cons_self ..))
    obtain ⟨⟨as2, a2⟩, bs2, b2, k2⟩ := Dd.shoAll I t r2 hs'.2 fun t m => hz t (List.mem_cons_of_mem _ m)
    refine ⟨⟨_, .cons a1 a2⟩, bs ++ bs2, (b1.mono (Nat.le_max_left _ _)).append (b2.mono (Nat.le_max_right _ _)), .cons ?_ ?_⟩
    · exact (k1.more fun b m => List.mem_append_left _ m).level_le (Nat.le_max_left _ _)
    · exact k2.more_le (fun b m => List.mem_append_right _ m) (Nat.le_max_right _ _)
end
end
/-- repr of data of any kind -/
theorem repr_any {X : Cx} {pins : List (Addr × Obj)} {σ : L2.St} {H : Hp} {s : Shared} {v : V} {u : Value} {d : PyData} {A : Around} {E : Value → Shared → Prop} {Q : Value → Shared → Prop} (I : Inv X pins σ H s) (dd : Dd X.K H v d) (r : RelV v u) (sh : d.showable = true) (hg : A.guards = some []) (hu : A.units + (d.depth + 1) < cLine) (sz : d.shown.length ≤ sizeLine)
    (hQ : ∀ h' t tk, (∀ b o, s.heap.get? b = some o → h'.get? b = some o) → Q (.str d.shown t) { s with heap := h', toks := tk }) : wpAny (model X.prog X.w) A (call (.builtin "repr") [u]) Q E s := by
  have no : ∀ b o, s.heap.get? b = some o → s.heap.get? b = some o := fun _ _ e => e
  cases dd with
  | non =>
    cases r
    exact _root_.PySem.P.repr_of_none (hQ s.heap s.toks (s.toks + 1) no)
  | bl b =>
    cases r
    refine _root_.PySem.P.repr_of_bool ?_
    cases b
    · exact hQ s.heap s.toks (s.toks + 1) no
    · exact hQ s.heap s.toks (s.toks + 1) no
  | int i =>
    obtain ⟨t, rfl⟩ := r
    exact _root_.PySem.P.repr_of_int (of_decide_eq_true sh) (hQ s.heap s.toks (s.toks + 1) no)
  | str x =>
    obtain ⟨t, rfl⟩ := r
    exact _root_.PySem.P.repr_of_str (hQ s.heap s.toks (s.toks + 1) no) sz
  | @lst a xs ds q rr =>
    cases r
    obtain ⟨its, rv, ⟨o, n, ho, hc, _, hd⟩, _⟩ := I.list q
    obtain ⟨⟨as, rd⟩, bs, rb, rk⟩ := Dd.shoAll I rr rv sh fun t m => Nat.le_trans (listText_mem_le m) sz
    have top : Reads s.heap (.ref a) (.list ds) (a :: as) := .list ho hc hd rd
    have nm := not_mem_of_deeper top (Nat.lt_succ_self _) rb
    have hu' : A.units + (PyData.depthAll ds + 1 + 1) < cLine := hu
    refine call_repr_slot (T := "list") (by omega) ⟨o, ho, hc⟩ F.slot_list_repr.toG ?_
    cases its with
    | nil =>
      cases rd
      exact call_list_repr_empty ⟨o, ho, hc⟩ ho hd ⟨_, _, rfl, hQ s.heap _ _ no⟩
    | cons x l => exact call_list_reprK (A := A.in1) ho hc hd nm rk.length_eq (fun i y e => rk.item i y (by rw [List.getElem?_toArray] at e; exact e)) hg (fun b _ => Clear.nil b) (by show A.units + 1 + _ < cLine; omega) no (fun h' t tk k => ⟨_, _, rfl, hQ h' t tk k⟩) sz
  | @tup a xs ds q rr =>
    cases r
    obtain ⟨its, rv, ⟨o, ho, hc, n, hd⟩, _⟩ := I.tuple q
    obtain ⟨⟨as, rd⟩, bs, rb, rk⟩ := Dd.shoAll I rr rv sh fun t m => Nat.le_trans (tupleText_mem_le m) sz
    have top : Reads s.heap (.ref a) (.tuple ds) as := .tuple ho hc hd rd
    have nm := not_mem_of_deeper top (Nat.lt_succ_self _) rb
    have hu' : A.units + (PyData.depthAll ds + 1 + 1) < cLine := hu
    exact call_repr_slot (T := "tuple") (by omega) ⟨o, ho, hc⟩ F.slot_tuple_repr (call_tuple_reprK (A := A.in1) ho hc hd nm rk hg (fun b _ => Clear.nil b) (by show A.units + 1 + _ < cLine; omega) no (fun h' t tk k => ⟨_, _, rfl, hQ h' t tk k⟩) sz)
  | @dct a kvs kds q e rr =>
    cases r
    obtain ⟨_, hsys, vs, kv, o, es, ep, ho, hc, hd, _, hp, _⟩ := (show ObjOk X.prog X.w H s.heap a (.dK kvs) from I.hok a _ q)
    obtain ⟨s1, s2⟩ := PyData.showableKv_split kds sh
    obtain ⟨v1, v2⟩ := vals_of_pairs hp kv
    obtain ⟨⟨as, rd⟩, bs, rb, rk⟩ := Dd.shoAll I rr v1 s2 fun t m => by
      obtain ⟨p, mp, hl⟩ := PyData.shownKv_val_le kds t m
      exact Nat.le_trans hl (Nat.le_trans (dictText_mem_le mp) sz)
    obtain ⟨⟨as2, kr⟩, kk⟩ := keys_show (h := s.heap) (n := PyData.depthKv kds) hp (v2.trans e) s1 fun t m => by
      obtain ⟨p, mp, hl⟩ := PyData.shownKv_key_le kds t m
      exact Nat.le_trans hl (Nat.le_trans (dictText_mem_le mp) sz)
    have top : Reads s.heap (.ref a) (.dict kds) (a :: as2 ++ as) := .dict ho hc.1 hd kr rd
    have nm : a ∉ bs := not_mem_of_deeper top (Nat.lt_succ_self _) (rb.mono (PyData.depthAll_vals_le kds))
    have en := ReprEntriesK.of_two es.toList _ _ (kk.more_le (fun b (hb : b ∈ ([] : List Addr)) => absurd hb List.not_mem_nil) (Nat.le_refl _)) (rk.more_le (fun b hb => hb) (PyData.depthAll_vals_le kds))
    rw [← PyData.shownKv_eq] at en
    have hu' : A.units + (PyData.depthKv kds + 1 + 1) < cLine := hu
    exact call_repr_slot (T := "dict") (by omega) ⟨o, ho, hc.1⟩ F.slot_dict_repr (call_dict_reprK (A := A.in1) ho hc.1 hd hsys nm en hg (fun b _ => Clear.nil b) (by show A.units + 1 + _ < cLine; omega) no (fun h' t tk k => ⟨_, _, rfl, hQ h' t tk k⟩) sz)
def rReprA (K : PySem.W.Frag) : List V → Hp → VK → Prop := fun xs H Q => ∃ x d, xs = [x] ∧ Dd K H x d ∧ d.showable = true ∧ d.depth ≤ 64 ∧ d.shown.length ≤ sizeLine ∧ Q (.str d.shown) H
theorem call_reprA {X : Cx} {K : PySem.W.Frag} {k : Nat} (h : X.K = K) (hg : X.A.guards = some []) (hr : Room k X.A) : CallR X (.builtin "repr") (rReprA K) := by
  subst h
  intro pins s σ H xs us Q I r h
  obtain ⟨x, d, rfl, dd, sh, de, sz, q⟩ := h
  obtain ⟨u, rfl, ru⟩ := r.one
  have un := hr.un
  exact repr_any I dd ru sh hg (by omega) sz fun h' t tk keep => ⟨.str _, H, I.kept keep, ⟨_, rfl⟩, q⟩
/-! ### it stays -/
mutual
theorem Dd.kt {K : PySem.W.Frag} {H H' : Hp} (l : ∀ {a xs}, SqL K H a xs → SqL K H' a xs) (t : ∀ {a xs}, SqT K H a xs → SqT K H' a xs) (k : ∀ {a kvs}, H a = some (.dK kvs) → H' a = some (.dK kvs)) : ∀ {v : V} {d : PyData}, Dd K H v d → Dd K H' v d
  | _, _, .non => .non
  | _, _, .bl b => .bl b
  | _, _, .int i => .int i
  | _, _, .str x => .str x
  | _, _, .lst q r => .lst (l q) (DdAll.kt l t k r)
  | _, _, .tup q r => .tup (t q) (DdAll.kt l t k r)
  | _, _, .dct q e r => .dct (k q) e (DdAll.kt l t k r)
theorem DdAll.kt {K : PySem.W.Frag} {H H' : Hp} (l : ∀ {a xs}, SqL K H a xs → SqL K H' a xs) (t : ∀ {a xs}, SqT K H a xs → SqT K H' a xs) (k : ∀ {a kvs}, H a = some (.dK kvs) → H' a = some (.dK kvs)) : ∀ {vs : List V} {ds : List PyData}, DdAll K H vs ds → DdAll K H' vs ds
  | _, _, .nil => .nil
  | _, _, .cons h t' => .cons (Dd.kt l t k h) (DdAll.kt l t k t')
end
theorem tup_same {K : PySem.W.Frag} {H H' : Hp} {a : Addr} {xs : List V} (s : Same H H') (h : SqT K H a xs) : SqT K H' a xs := by
  rcases h with (h | ⟨o, h⟩) | h
  · exact .inl (.inl (s _ _ h))
  · exact .inl (.inr ⟨o, s _ _ h⟩)
  · exact .inr h
theorem Dd.same {K : PySem.W.Frag} {H H' : Hp} {v : V} {d : PyData} (s : Same H H') (h : Dd K H v d) : Dd K H' v d := h.kt (fun q => s.seq q) (fun q => tup_same s q) (fun q => s _ _ q)
/-- the heap but for what stands at u -/
def off (u : Addr) (H : Hp) : Hp := fun b => if b = u then none else H b
theorem off_same {u : Addr} {H : Hp} : Same (off u H) H := fun b o h => by
  unfold off at h
  split at h
  · cases h
  · exact h
theorem off_but {u : Addr} {H H' : Hp} (k : But u H H') : Same (off u H) (off u H') := fun b o h => by
  unfold off at h ⊢
  split at h
  · cases h
  · rename_i n
    rw [if_neg n]
    exact k b o n h
theorem off_at {u p : Addr} {H : Hp} {o : HO} (h : H p = some o) (n : p ≠ u) : off u H p = some o := by
  unfold off
  rw [if_neg n]
  exact h
theorem Dd.but {K : PySem.W.Frag} {u : Addr} {H H' : Hp} {v : V} {d : PyData} (k : But u H H') (h : Dd K (off u H) v d) : Dd K (off u H') v d := h.same (off_but k)
theorem Dd.on {K : PySem.W.Frag} {u : Addr} {H : Hp} {v : V} {d : PyData} (h : Dd K (off u H) v d) : Dd K H v d := h.same off_same
/-- the kind of a thing -/
theorem Dd.ty {K : PySem.W.Frag} {H : Hp} {v : V} {d : PyData} (h : Dd K H v d) : ∃ T : String, TyX K H v (.type T) ∧ (T = "int" ↔ ∃ i, v = .int i) ∧ (T = "bool" ↔ ∃ b, v = .bl b) ∧ T ∈ ["NoneType", "bool", "int", "str", "list", "tuple", "dict"] := by
  cases h with
  | non => exact ⟨"NoneType", .base .non, by simp, by simp, by simp⟩
  | bl b => exact ⟨"bool", .base (.bl b), by simp, by simp, by simp⟩
  | int i => exact ⟨"int", .base (.int i), by simp, by simp, by simp⟩
  | str x => exact ⟨"str", .base (.str x), by simp, by simp, by simp⟩
  | lst q r =>
    refine ⟨"list", ?_, by simp, by simp, by simp⟩
    rcases q with (q | ⟨o, q⟩) | ⟨o, its, n, q, c, _⟩
    · exact .base (.lst q)
    · exact .base (.frz q)
    · exact .kList q c
  | tup q r =>
    refine ⟨"tuple", ?_, by simp, by simp, by simp⟩
    rcases q with (q | ⟨o, q⟩) | ⟨o, its, n, q, c, _⟩
    · exact .base (.tup q)
    · exact .fTuple q
    · exact .kTuple q c
  | dct q e r => exact ⟨"dict", .base (.dK q), by simp, by simp, by simp⟩
/-! ### data that is shown in few signs -/
def Nice (n : Nat) (d : PyData) : Prop := d.showable = true ∧ d.depth ≤ n ∧ d.shown.length ≤ 3000 + 20 * n
theorem Nice.up {n m : Nat} {d : PyData} (h : Nice n d) (l : n ≤ m) : Nice m d := ⟨h.1, Nat.le_trans h.2.1 l, Nat.le_trans h.2.2 (by omega)⟩
theorem Nice.line {n : Nat} {d : PyData} (h : Nice n d) (l : n ≤ 64) : d.showable = true ∧ d.depth ≤ 64 ∧ d.shown.length ≤ sizeLine := ⟨h.1, Nat.le_trans h.2.1 l, Nat.le_trans h.2.2 (by rw [sizeLine_eq]; omega)⟩
theorem nice_int {i : Int} (h : i.natAbs.log2 < 1920) : Nice 0 (.int i) := by
  obtain ⟨a, _, b, c⟩ := leaf_int h
  exact ⟨a, Nat.le_of_eq b, Nat.le_trans c (by decide)⟩
theorem tup1_len (t : Str) : (tupleText [t]).length = t.length + 3 := by
  unfold tupleText
  rw [strLen_append, strLen_append]
  show 1 + t.length + 2 = t.length + 3
  omega
theorem lst1_len (t : Str) : (listText [t]).length = t.length + 2 := by
  unfold listText
  rw [strLen_append]
  show (("[" : Str) ++ ("" : Str) ++ t).length + 1 = t.length + 2
  rw [strLen_append, strLen_append]
  show 1 + 0 + t.length + 1 = t.length + 2
  omega
theorem dct1_len (t : Str) : (dictText [t]).length = t.length + 2 := by
  unfold dictText
  rw [strLen_append, strLen_append]
  show 1 + t.length + 1 = t.length + 2
  omega
theorem tup2_len (t u : Str) : (tupleText [t, u]).length = t.length + u.length + 4 := by
  unfold tupleText
  have e := join_length_add [t, u] (by simp)
  rw [piled_cons, piled_cons, piled_nil] at e
  rw [strLen_append, strLen_append]
  show 1 + (Str.join ", " [t, u]).length + 1 = _
  omega
theorem nice_tup1 {n : Nat} {d : PyData} (h : Nice n d) : Nice (n + 1) (.tuple [d]) := by
  obtain ⟨a, b, c⟩ := h
  refine ⟨by simp only [PyData.showable, PyData.showableAll, a, Bool.and_self], ?_, ?_⟩
  · simp only [PyData.depth, PyData.depthAll]
    omega
  · simp only [PyData.shown, PyData.shownAll, tup1_len]
    omega
theorem nice_lst1 {n : Nat} {d : PyData} (h : Nice n d) : Nice (n + 1) (.list [d]) := by
  obtain ⟨a, b, c⟩ := h
  refine ⟨by simp only [PyData.showable, PyData.showableAll, a, Bool.and_self], ?_, ?_⟩
  · simp only [PyData.depth, PyData.depthAll]
    omega
  · simp only [PyData.shown, PyData.shownAll, lst1_len]
    omega
theorem nice_dct1 {n : Nat} {d : PyData} {x : Str} (hx : (reprText x).length ≤ 10) (h : Nice n d) : Nice (n + 1) (.dict [(.str x, d)]) := by
  obtain ⟨a, b, c⟩ := h
  refine ⟨by simp only [PyData.showable, PyData.showableKv, a, Bool.and_self], ?_, ?_⟩
  · simp only [PyData.depth, PyData.depthKv]
    omega
  · simp only [PyData.shown, PyData.shownKv, dct1_len]
    rw [strLen_append, strLen_append]
    show (reprText x).length + 2 + d.shown.length + 2 ≤ _
    omega
theorem nice_tup2 {n : Nat} {d e : PyData} (h : Nice n d) (k : Nice 0 e) (l : e.shown.length ≤ 10) : Nice (n + 1) (.tuple [d, e]) := by
  obtain ⟨a, b, c⟩ := h
  obtain ⟨a', b', _⟩ := k
  refine ⟨by simp only [PyData.showable, PyData.showableAll, a, a', Bool.and_self], ?_, ?_⟩
  · simp only [PyData.depth, PyData.depthAll]
    omega
  · simp only [PyData.shown, PyData.shownAll, tup2_len]
    omega
end Lj
set_option Elab.async false
set_option linter.all false
set_option maxRecDepth 100000
namespace Lj
open PySem PySem.Spec PyProof.Rows L2
theorem div_ok {i j : Int} {k : Nat} (h0 : 0 < j) (h : j.natAbs < 2 ^ k) (k0 : 0 < k) (k1 : k ≤ 9000) : CDivP i j := ⟨h0, PyProof.noPylong_of_log2 (Nat.lt_of_lt_of_le (PySem.Flt.log2_lt_of k0 h) k1)⟩
/-! ### the last step that assigns a register -/
/-- the registers that an instruction assigns -/
def asgs (w : Str) (as : List Int) : List Int := if w = "swap" then as else if w = "write" then [] else as.take 1
def Tr.asg (x : Int) : Tr → Bool
  | .op w as => decide (x ∈ asgs w as)
  | .loop _ _ => false
def la (x : Int) : List Tr → Option Nat
  | [] => none
  | t :: r => match la x r with
    | some j => some (j + 1)
    | none => if t.asg x then some 0 else none
theorem la_append (x : Int) (ys : List Tr) : ∀ xs : List Tr, la x (xs ++ ys) = match la x ys with
    | some j => some (xs.length + j)
    | none => la x xs
  | [] => by
    show la x ys = _
    cases la x ys with
    | none => rfl
    | some j => show some j = some (0 + j); rw [Nat.zero_add]
  | t :: r => by
    show (match la x (r ++ ys) with | some j => some (j + 1) | none => if t.asg x then some 0 else none) = _
    rw [la_append x ys r]
    cases la x ys with
    | none => rfl
    | some j =>
      show some (r.length + j + 1) = some (r.length + 1 + j)
      congr 1
      omega
theorem la_flat (x : Int) (xs : List Tr) : ∀ n : Nat, la x (List.replicate n xs).flatten = match n, la x xs with
    | 0, _ => none
    | k + 1, some j => some (k * xs.length + j)
    | _ + 1, none => none
  | 0 => rfl
  | n + 1 => by
    rw [List.replicate_succ', List.flatten_append, List.flatten_cons, List.flatten_nil, List.append_nil, la_append]
    cases h : la x xs with
    | some j =>
      show some (((List.replicate n xs).flatten).length + j) = some (n * xs.length + j)
      rw [flat_len]
    | none =>
      show la x (List.replicate n xs).flatten = none
      rw [la_flat x xs n, h]
      cases n <;> rfl
/-- a prefix of a repeated list -/
theorem take_flat {α : Type} (xs : List α) (n k r : Nat) (hk : k < n) (hr : r ≤ xs.length) : ((List.replicate n xs).flatten).take (k * xs.length + r) = (List.replicate k xs).flatten ++ xs.take r := by
  obtain ⟨m, rfl⟩ : ∃ m, n = k + (m + 1) := ⟨n - k - 1, by omega⟩
  rw [← List.replicate_append_replicate, List.flatten_append, ← flat_len k xs, List.take_length_add_append, List.replicate_succ, List.flatten_cons, List.take_append_of_le_length hr]
theorem take_flat_all {α : Type} (xs : List α) (n : Nat) : ((List.replicate n xs).flatten).take (n * xs.length) = (List.replicate n xs).flatten := by
  rw [← flat_len n xs]
  exact List.take_length
/-- an optional number as a value -/
def optV : Option Nat → V
  | none => .non
  | some j => .int (j : Nat)
mutual
/-- each instruction but loops has arguments -/
def Tr.hasArgs : Tr → Prop
  | .op _ as => as ≠ []
  | .loop _ b => haveArgs b
def haveArgs : List Tr → Prop
  | [] => True
  | t :: r => t.hasArgs ∧ haveArgs r
end
theorem args_get : ∀ {b : List Tr} {i : Nat} {t : Tr}, haveArgs b → b[i]? = some t → t.hasArgs
  | [], _, _, _, e => by simp at e
  | t :: r, 0, u, h, e => by
    cases e
    rw [haveArgs] at h
    exact h.1
  | t :: r, i + 1, u, h, e => by
    rw [haveArgs] at h
    exact args_get (i := i) h.2 e
theorem GoodOp.args {p n : Int} {w : Str} {as : List Int} (h : GoodOp p n w as) : as ≠ [] := by
  rcases h with ⟨_, _, _, rfl, _⟩ | ⟨_, _, rfl, _⟩ | ⟨_, _, _, rfl, _⟩ | ⟨_, _, _, _, rfl, _⟩ <;> intro z <;> cases z
mutual
theorem Tr.made_args {G : Str → List Int → Prop} {R : Int → Prop} (hG : ∀ w as, G w as → as ≠ []) : ∀ (t : Tr) (l d : Nat), t.made G R l d → t.hasArgs
  | .op w as, l, d, h => by
    rw [Tr.made] at h
    rw [Tr.hasArgs]
    exact hG w as h
  | .loop k b, l, 0, h => by rw [Tr.made] at h; exact h.elim
  | .loop k b, l, d + 1, h => by
    rw [Tr.made] at h
    rw [Tr.hasArgs]
    exact mades_args hG b (l / 2) d h.2.2
theorem mades_args {G : Str → List Int → Prop} {R : Int → Prop} (hG : ∀ w as, G w as → as ≠ []) : ∀ (b : List Tr) (l d : Nat), mades G R b l d → haveArgs b
  | [], _, _, _ => by rw [haveArgs]; trivial
  | t :: r, l, d, h => by
    rw [mades] at h
    rw [haveArgs]
    exact ⟨Tr.made_args hG t l d h.1, mades_args hG r l d h.2⟩
end
theorem mades_drop {G : Str → List Int → Prop} {R : Int → Prop} : ∀ {b : List Tr} {l d : Nat}, mades G R b l d → mades G R (b.drop 1) l d
  | [], _, _, h => h
  | t :: r, l, d, h => by
    rw [mades] at h
    exact h.2
/-! ### slices of tuples -/
theorem cut_tail (x : V) (xs : List V) : cutV (x :: xs) (some 1) none = xs := by
  unfold cutV
  rw [show HT.sIx (x :: xs).length 0 (some 1) = min 1 (x :: xs).length from HT.sIx_nat _ _ 1, HT.sIx_none, List.length_cons, show min 1 (xs.length + 1) = 1 by omega]
  show (xs.take (xs.length + 1 - 1)) = xs
  rw [Nat.add_sub_cancel]
  exact List.take_length
theorem cut_tail_ne (x : V) (xs : List V) : ¬ (HT.sIx (x :: xs).length 0 (some 1) = 0 ∧ HT.sIx (x :: xs).length (x :: xs).length none = (x :: xs).length) := by
  rw [show HT.sIx (x :: xs).length 0 (some 1) = min 1 (x :: xs).length from HT.sIx_nat _ _ 1, List.length_cons, show min 1 (xs.length + 1) = 1 by omega]
  rintro ⟨h, _⟩
  cases h
theorem cut_one (x : V) (xs : List V) : cutV (x :: xs) (some 1) (some 2) = xs.take 1 := by
  unfold cutV
  rw [show HT.sIx (x :: xs).length 0 (some 1) = min 1 (x :: xs).length from HT.sIx_nat _ _ 1, show HT.sIx (x :: xs).length (x :: xs).length (some 2) = min 2 (x :: xs).length from HT.sIx_nat _ _ 2, List.length_cons, show min 1 (xs.length + 1) = 1 by omega]
  show xs.take (min 2 (xs.length + 1) - 1) = xs.take 1
  cases xs with
  | nil => rfl
  | cons y ys => rw [show min 2 ((y :: ys).length + 1) - 1 = 1 by rw [List.length_cons]; omega]
theorem cut_one_ne (x : V) (xs : List V) : ¬ (HT.sIx (x :: xs).length 0 (some 1) = 0 ∧ HT.sIx (x :: xs).length (x :: xs).length (some 2) = (x :: xs).length) := by
  rw [show HT.sIx (x :: xs).length 0 (some 1) = min 1 (x :: xs).length from HT.sIx_nat _ _ 1, List.length_cons, show min 1 (xs.length + 1) = 1 by omega]
  rintro ⟨h, _⟩
  cases h
theorem flat_ints (ns : List Int) : (ns.map V.int).all flatV = true := by
  induction ns with
  | nil => rfl
  | cons s r ih => exact ih
theorem inV_ints {z : Int} : ∀ {ss : List Int}, inV (.int z) (ss.map V.int) = decide (z ∈ ss)
  | [] => by
    show false = _
    rw [decide_eq_false (List.not_mem_nil)]
  | s :: r => by
    show (s == z || inV (.int z) (r.map V.int)) = _
    rw [inV_ints, Bool.eq_iff_iff, Bool.or_eq_true, decide_eq_true_iff, decide_eq_true_iff, List.mem_cons, beq_iff_eq]
    constructor
    · rintro (h | h)
      · exact .inl h.symm
      · exact .inr h
    · rintro (h | h)
      · exact .inl h.symm
      · exact .inr h
/-! ### promises -/
def spAsg (K : PySem.W.Frag) : Sp := fun vs H Q _ => ∃ (v : V) (w : Str) (as : List Int) (x : Int), vs = [v, .int x] ∧ TrAt K H (.op w as) v ∧ as ≠ [] ∧ ∀ H', Same H H' → Q (.bl (decide (x ∈ asgs w as))) H'
def spLA (K : PySem.W.Frag) (n : Nat) : Sp := fun vs H Q _ => ∃ (v : V) (b : List Tr) (m x : Int), vs = [v, .int m, .int x] ∧ BodyAt K H b v ∧ okB n b ∧ haveArgs b ∧ 0 ≤ m ∧ ∀ H', Same H H' → Q (optV (la x ((exs b).take m.toNat))) H'
def spLW (K : PySem.W.Frag) (n : Nat) : Sp := fun vs H Q _ => ∃ (v : V) (t : Tr) (m x : Int), vs = [v, .int m, .int x] ∧ TrAt K H t v ∧ okB (n + 1) [t] ∧ t.hasArgs ∧ 0 ≤ m ∧ m ≤ t.len ∧ ∀ H', Same H H' → Q (optV (la x (t.ex.take m.toNat))) H'
theorem la_one (x : Int) (w : Str) (as : List Int) : la x [.op w as] = if x ∈ asgs w as then some 0 else none := by
  show (if decide (x ∈ asgs w as) = true then some 0 else none) = _
  by_cases h : x ∈ asgs w as
  · rw [decide_eq_true h, if_pos h, if_pos rfl]
  · rw [decide_eq_false h, if_neg h, if_neg Bool.false_ne_true]
/-- within a loop -/
theorem la_loop (x : Int) (E : List Tr) (k m : Nat) (hE : 0 < E.length) (hm : m ≤ k * E.length) : la x (((List.replicate k E).flatten).take m) =
    match la x (E.take (m % E.length)) with
    | some j => some (m / E.length * E.length + j)
    | none => match m / E.length, la x E with
      | 0, _ => none
      | t + 1, some j => some (t * E.length + j)
      | _ + 1, none => none := by
  have hd := Nat.div_add_mod m E.length
  have hr := Nat.mod_lt m hE
  generalize m / E.length = t at hd
  generalize m % E.length = r at hd hr
  have e : ((List.replicate k E).flatten).take m = (List.replicate t E).flatten ++ E.take r := by
    rw [← hd, Nat.mul_comm]
    by_cases h : t < k
    · exact take_flat E k t r h (Nat.le_of_lt hr)
    · have h1 : k * E.length ≤ t * E.length := Nat.mul_le_mul_right _ (by omega)
      have h2 : t * E.length + r ≤ k * E.length := by rw [← hd, Nat.mul_comm] at hm; exact hm
      have h3 : r = 0 := by omega
      have h4 : t = k := by
        have := Nat.eq_of_mul_eq_mul_right hE (show t * E.length = k * E.length by omega)
        exact this
      subst h3 h4
      rw [Nat.add_zero, take_flat_all, List.take_zero, List.append_nil]
  rw [e, la_append]
  cases la x (E.take r) with
  | some j =>
    show some (((List.replicate t E).flatten).length + j) = _
    rw [flat_len]
  | none => exact la_flat x E t
end Lj
namespace Lj
open PySem PySem.Spec PyProof.Rows L2
theorem vals_snoc : ∀ {xs : List V} {us : List Value} {x : V} {u : Value}, Vals xs us → RelV x u → Vals (xs ++ [x]) (us ++ [u])
  | _, _, _, _, .nil, r => .cons r .nil
  | _, _, _, _, .cons a b, r => .cons a (vals_snoc b r)
theorem vals_rev : ∀ {xs : List V} {us : List Value}, Vals xs us → Vals xs.reverse us.reverse
  | _, _, .nil => .nil
  | _, _, .cons a b => by
    rw [List.reverse_cons, List.reverse_cons]
    exact vals_snoc (vals_rev b) a
end Lj
set_option Elab.async false
set_option linter.all false
set_option maxRecDepth 100000
namespace Lj
open PySem PySem.Spec PyProof.Rows L2
/-! ### trees shown -/
mutual
def Tr.datT : Tr → PyData
  | .op w as => .tuple (.str w :: as.map .int)
  | .loop k b => .tuple [.str "loop", .int k, .tuple (datTs b)]
def datTs : List Tr → List PyData
  | [] => []
  | t :: r => t.datT :: datTs r
end
mutual
theorem Tr.dp {K : PySem.W.Frag} {H : Hp} : ∀ (t : Tr) (v : V), TrAt K H t v → Dp K H v t.datT
  | .op w as, v, h => by
    rw [TrAt] at h
    obtain ⟨a, rfl, sq⟩ := h
    rw [Tr.datT]
    exact .tup sq (.cons (.str w) (dp_ints as))
  | .loop k b, v, h => by
    rw [TrAt] at h
    obtain ⟨a, c, vs, rfl, sq, sq2, r⟩ := h
    rw [Tr.datT]
    exact .tup sq (.cons (.str _) (.cons (.int k) (.cons (.tup sq2 (trs_dp b vs r)) .nil)))
theorem trs_dp {K : PySem.W.Frag} {H : Hp} : ∀ (b : List Tr) (vs : List V), TrsAt K H b vs → DpAll K H vs (datTs b)
  | [], vs, h => by
    rw [TrsAt] at h
    rw [h, datTs]
    exact .nil
  | t :: r, vs, h => by
    rw [TrsAt] at h
    obtain ⟨v, us, rfl, a, k⟩ := h
    rw [datTs]
    exact .cons (Tr.dp t v a) (trs_dp r us k)
end
def sb : Nat → Nat
  | 0 => 20000
  | d + 1 => 20000 + 8 * (sb d + 2)
theorem sb_ge : ∀ d, 20000 ≤ sb d
  | 0 => Nat.le_refl _
  | d + 1 => by rw [sb]; omega
/-- short arguments -/
def Short (w : Str) (as : List Int) : Prop := w ∈ W7 ∧ as.length ≤ 3 ∧ ∀ a ∈ as, a.natAbs < 2 ^ 1000
theorem W7_shown {w : Str} (h : w ∈ W7) : (PyData.shown (.str w)).length ≤ 20 := by
  have z : (W7.all fun w => decide ((PyData.shown (.str w)).length ≤ 20)) = true := by decide +kernel
  exact of_decide_eq_true (List.all_eq_true.mp z w h)
mutual
theorem Tr.made_show {G : Str → List Int → Prop} {R : Int → Prop} (hG : ∀ w as, G w as → Short w as) (hR : ∀ k, R k → k.natAbs < 2 ^ 1000) : ∀ (t : Tr) (l d : Nat), l ≤ 8 → t.made G R l d →
    t.datT.showable = true ∧ t.datT.hasDict = false ∧ t.datT.depth ≤ 2 * d + 1 ∧ t.datT.shown.length ≤ sb d
  | .op w as, l, d, hl, h => by
    rw [Tr.made] at h
    obtain ⟨h1, h2, h3⟩ := hG w as h
    obtain ⟨a1, a2, a3, a4, a5⟩ := leaf_all (leaf_ints h3)
    rw [Tr.datT]
    refine ⟨by rw [PyData.showable, PyData.showableAll, PyData.showable, a1]; rfl, by rw [PyData.hasDict, PyData.hasDictAll, PyData.hasDict, a2]; rfl, by rw [PyData.depth, PyData.depthAll, PyData.depth, a3]; exact Nat.succ_le_succ (Nat.zero_le _), ?_⟩
    rw [PyData.shown, PyData.shownAll]
    have z := PySem.tupleText_len_le (PyData.shown (.str w) :: PyData.shownAll (as.map PyData.int))
    rw [List.map_cons, List.sum_cons, List.length_cons, a5] at z
    have z2 := W7_shown h1
    have z3 := sb_ge d
    rw [List.length_map] at z a4
    omega
  | .loop k b, l, 0, _, h => by rw [Tr.made] at h; exact h.elim
  | .loop k b, l, d + 1, hl, h => by
    rw [Tr.made] at h
    obtain ⟨b1, b2, b3, b4, b5⟩ := mades_show hG hR b (l / 2) d (by omega) h.2.2
    obtain ⟨i1, i2, i3, i4⟩ := leaf_int (log_of (hR k h.1) (by decide) (by decide))
    have lp : (PyData.shown (.str "loop")).length ≤ 20 := by decide +kernel
    have y := PySem.tupleText_len_le (PyData.shownAll (datTs b))
    have hb := h.2.1
    rw [Tr.datT]
    refine ⟨by rw [PyData.showable, PyData.showableAll, PyData.showable, PyData.showableAll, i1, PyData.showableAll, PyData.showable, b1, PyData.showableAll]; rfl,
      by rw [PyData.hasDict, PyData.hasDictAll, PyData.hasDict, PyData.hasDictAll, i2, PyData.hasDictAll, PyData.hasDict, b2, PyData.hasDictAll]; rfl,
      by rw [PyData.depth, PyData.depthAll, PyData.depth, PyData.depthAll, i3, PyData.depthAll, PyData.depth, PyData.depthAll]; omega, ?_⟩
    rw [PyData.shown, PyData.shownAll, PyData.shownAll, PyData.shownAll, PyData.shownAll]
    have z := PySem.tupleText_len_le [PyData.shown (.str "loop"), PyData.shown (.int k), PyData.shown (.tuple (datTs b))]
    have ez : (PyData.shown (.tuple (datTs b))) = tupleText (PyData.shownAll (datTs b)) := by rw [PyData.shown]
    rw [List.map_cons, List.map_cons, List.map_cons, List.map_nil, List.sum_cons, List.sum_cons, List.sum_cons, List.sum_nil, ez] at z
    rw [show ([PyData.shown (.str "loop"), PyData.shown (.int k), tupleText (PyData.shownAll (datTs b))] : List Str).length = 3 from rfl] at z
    rw [ez, sb]
    have m1 : b.length * sb d ≤ 4 * sb d := Nat.mul_le_mul_right _ (by omega)
    have := sb_ge d
    omega
theorem mades_show {G : Str → List Int → Prop} {R : Int → Prop} (hG : ∀ w as, G w as → Short w as) (hR : ∀ k, R k → k.natAbs < 2 ^ 1000) : ∀ (b : List Tr) (l d : Nat), l ≤ 8 → mades G R b l d →
    PyData.showableAll (datTs b) = true ∧ PyData.hasDictAll (datTs b) = false ∧ PyData.depthAll (datTs b) ≤ 2 * d + 1 ∧ ((PyData.shownAll (datTs b)).map (·.length)).sum ≤ b.length * sb d ∧ (PyData.shownAll (datTs b)).length = b.length
  | [], l, d, _, _ => by
    rw [datTs]
    exact ⟨by rw [PyData.showableAll], by rw [PyData.hasDictAll], by rw [PyData.depthAll]; exact Nat.zero_le _, by rw [PyData.shownAll]; exact Nat.zero_le _, by rw [PyData.shownAll]; rfl⟩
  | t :: r, l, d, hl, h => by
    rw [mades] at h
    obtain ⟨a1, a2, a3, a4⟩ := Tr.made_show hG hR t l d hl h.1
    obtain ⟨b1, b2, b3, b4, b5⟩ := mades_show hG hR r l d hl h.2
    rw [datTs]
    refine ⟨by rw [PyData.showableAll, a1, b1]; rfl, by rw [PyData.hasDictAll, a2, b2]; rfl, by rw [PyData.depthAll]; omega, ?_, by rw [PyData.shownAll, List.length_cons, b5, List.length_cons]⟩
    rw [PyData.shownAll, List.map_cons, List.sum_cons, List.length_cons, Nat.succ_mul]
    omega
end
/-! ### reads among what is executed -/
def rc (E : List Tr) : Int := (((E.map Tr.word).count ("read" : Str) : Nat) : Int)
theorem rc_nil : rc [] = 0 := rfl
theorem rc_append (a b : List Tr) : rc (a ++ b) = rc a + rc b := by
  unfold rc
  rw [List.map_append, List.count_append, Int.natCast_add]
theorem rc_exs {b : List Tr} {n : Nat} (h : wfs b n) : rc (exs b) = cnts "read" b := exs_cnt "read" b n h
theorem rc_ex {t : Tr} {n : Nat} (h : t.wf n) : rc t.ex = t.cnt "read" := Tr.ex_cnt "read" t n h
theorem rc_flat (xs : List Tr) (n : Nat) : rc (List.replicate n xs).flatten = n * rc xs := by
  unfold rc
  rw [count_flat, Int.natCast_mul]
theorem rc_loop (E : List Tr) (k m : Nat) (hE : 0 < E.length) (hm : m < k * E.length) : rc (((List.replicate k E).flatten).take m) = ((m / E.length : Nat) : Int) * rc E + rc (E.take (m % E.length)) := by
  have hd := Nat.div_add_mod m E.length
  have hr := Nat.mod_lt m hE
  have ht : m / E.length < k := (Nat.div_lt_iff_lt_mul hE).mpr hm
  generalize m / E.length = t at hd ht
  generalize m % E.length = r at hd hr
  rw [← hd, Nat.mul_comm, take_flat E k t r ht (Nat.le_of_lt hr), rc_append, rc_flat]
theorem rc_nn (E : List Tr) : 0 ≤ rc E := Int.natCast_nonneg _
theorem rc_le (E : List Tr) : rc E ≤ E.length := by
  unfold rc
  have := List.count_le_length (a := ("read" : Str)) (l := E.map Tr.word)
  rw [List.length_map] at this
  omega
def spRB (K : PySem.W.Frag) (n : Nat) : Sp := fun vs H Q _ => ∃ (v : V) (b : List Tr) (m : Int), vs = [v, .int m] ∧ BodyAt K H b v ∧ okB n b ∧ 0 ≤ m ∧ ∀ H', Same H H' → Q (.int (rc ((exs b).take m.toNat))) H'
def spRW (K : PySem.W.Frag) (n : Nat) : Sp := fun vs H Q _ => ∃ (v : V) (t : Tr) (m : Int), vs = [v, .int m] ∧ TrAt K H t v ∧ okB (n + 1) [t] ∧ 0 ≤ m ∧ m < t.len ∧ ∀ H', Same H H' → Q (.int (rc (t.ex.take m.toNat))) H'
end Lj
set_option Elab.async false
set_option linter.all false
set_option maxRecDepth 100000
namespace Lj
open PySem PySem.Spec PyProof.Rows L2
theorem wfs_take {b : List Tr} {n i : Nat} (h : wfs b n) : wfs (b.take i) n := wfs_all fun t m => by
  obtain ⟨j, hj, e⟩ := List.mem_iff_getElem.mp (List.mem_of_mem_take m)
  exact wfs_get (i := j) h (by rw [List.getElem?_eq_getElem hj, e])
theorem flat_takeL {b : List Tr} {i : Nat} {t : Tr} (e : b[i]? = some t) : exs (b.take (i + 1)) = exs (b.take i) ++ t.ex := by
  rw [exs_map, exs_map, map_next e, List.flatten_append, List.flatten_cons, List.flatten_nil, List.append_nil]
theorem lens_nextL {b : List Tr} {i : Nat} {t : Tr} (e : b[i]? = some t) : lens (b.take (i + 1)) = lens (b.take i) + t.len := by rw [lens_map, lens_map, sum_next e]
theorem exs_split (b : List Tr) (i : Nat) : exs b = exs (b.take i) ++ exs (b.drop i) := by rw [exs_map, exs_map, exs_map, ← List.flatten_append, ← List.map_append, List.take_append_drop]
theorem lens_split (b : List Tr) (i : Nat) : lens b = lens (b.take i) + lens (b.drop i) := by rw [lens_map, lens_map, lens_map, ← List.sum_append, ← List.map_append, List.take_append_drop]
theorem wfs_drop {b : List Tr} {n i : Nat} (h : wfs b n) : wfs (b.drop i) n := wfs_all fun t m => by
  obtain ⟨j, hj, e⟩ := List.mem_iff_getElem.mp (List.mem_of_mem_drop m)
  exact wfs_get (i := j) h (by rw [List.getElem?_eq_getElem hj, e])
/-! ### paths -/
/-- ps leads into b to the instruction t, the step st of b is the step r of t -/
inductive PT : List Tr → List Int → Tr → Int → Int → Prop
  | here {b : List Tr} {i : Nat} {t : Tr} {r : Int} (e : b[i]? = some t) : PT b [(i : Int)] t r (lens (b.take i) + r)
  | into {b b' : List Tr} {i : Nat} {k turn r st : Int} {t : Tr} {ps : List Int} (e : b[i]? = some (.loop k b')) (h0 : 0 ≤ turn) (h1 : turn < k) (p : PT b' ps t r st) : PT b ((i : Int) :: turn :: ps) t r (lens (b.take i) + (turn * lens b' + st))
theorem PT.deeper {b : List Tr} {ps : List Int} {t : Tr} {r st : Int} (p : PT b ps t r st) : ∀ {k turn r' : Int} {b' : List Tr} {j : Nat} {t' : Tr}, t = .loop k b' → 0 ≤ turn → turn < k → b'[j]? = some t' → r = turn * lens b' + (lens (b'.take j) + r') → PT b (ps ++ [turn, (j : Int)]) t' r' st := by
  induction p with
  | here e =>
    intro k turn r' b' j t' et h0 h1 ej er
    subst et er
    exact .into e h0 h1 (.here ej)
  | into e h0 h1 p ih =>
    intro k turn r' b' j t' et g0 g1 ej er
    exact .into e h0 h1 (ih et g0 g1 ej er)
theorem get_flat {α : Type} (E : List α) (k t r : Nat) (ht : t < k) (hr : r < E.length) : ((List.replicate k E).flatten)[t * E.length + r]? = E[r]? := by
  have h1 := take_flat E k t (r + 1) ht hr
  have h2 : (((List.replicate k E).flatten).take (t * E.length + (r + 1)))[t * E.length + r]? = ((List.replicate t E).flatten ++ E.take (r + 1))[t * E.length + r]? := by rw [h1]
  rw [List.getElem?_take_of_lt (by omega), List.getElem?_append_right (by rw [flat_len]; omega), flat_len, Nat.add_sub_cancel_left, List.getElem?_take_of_lt (by omega)] at h2
  exact h2
theorem PT.step {b : List Tr} {ps : List Int} {t : Tr} {r st : Int} (p : PT b ps t r st) : ∀ {n : Nat}, wfs b n → 0 ≤ r → r < t.len → 0 ≤ st ∧ st < lens b ∧ (exs b)[st.toNat]? = t.ex[r.toNat]? := by
  induction p with
  | @here b i t r e =>
    intro n h r0 r1
    have el := exs_len (b.take i) n (wfs_take h)
    have tl := Tr.ex_len t n (wfs_get h e)
    have l0 := (lens_bd _ n (wfs_take (i := i) h)).1
    have l2 := lens_nextL e
    have l3 := lens_split b (i + 1)
    have l4 := (lens_bd _ n (wfs_drop (i := i + 1) h)).1
    refine ⟨by omega, by omega, ?_⟩
    rw [exs_split b (i + 1), flat_takeL e, List.append_assoc, List.getElem?_append_right (by omega), List.getElem?_append_left (by omega)]
    congr 1
    omega
  | @into b b' i k turn r st t ps e h0 h1 p ih =>
    intro n h r0 r1
    have wt := wfs_get h e
    cases n with
    | zero => rw [Tr.wf] at wt; exact wt.elim
    | succ n =>
      have wt2 := wt
      rw [Tr.wf] at wt
      obtain ⟨s0, s1, s2⟩ := ih wt.2.2.2 r0 r1
      have el := exs_len (b.take i) _ (wfs_take h)
      have eb := exs_len b' n wt.2.2.2
      have tl := Tr.ex_len (.loop k b') _ wt2
      have l0 := (lens_bd _ _ (wfs_take (i := i) h)).1
      have l2 := lens_nextL e
      have l3 := lens_split b (i + 1)
      have l4 := (lens_bd _ _ (wfs_drop (i := i + 1) h)).1
      rw [Tr.len] at l2 tl
      have m0 : 0 ≤ turn * lens b' := Int.mul_nonneg h0 (by omega)
      have m1 : turn * lens b' + lens b' ≤ k * lens b' := by
        have := Int.mul_le_mul_of_nonneg_right (show turn + 1 ≤ k by omega) (show 0 ≤ lens b' by omega)
        rw [Int.add_mul, Int.one_mul] at this
        exact this
      refine ⟨by omega, by omega, ?_⟩
      rw [exs_split b (i + 1), flat_takeL e, List.append_assoc, List.getElem?_append_right (by omega), List.getElem?_append_left (by omega), ← s2, Tr.ex]
      have ix : (lens (b.take i) + (turn * lens b' + st)).toNat - (exs (b.take i)).length = turn.toNat * (exs b').length + st.toNat := by
        have : ((turn.toNat * (exs b').length : Nat) : Int) = turn * lens b' := by
          rw [Int.natCast_mul, eb]
          congr 1
          omega
        omega
      rw [ix]
      exact get_flat (exs b') k.toNat turn.toNat st.toNat (by omega) (by omega)
/-! ### slices of bodies -/
theorem TrsAt.take {K : PySem.W.Frag} {H : Hp} : ∀ {b : List Tr} {vs : List V} (i : Nat), TrsAt K H b vs → TrsAt K H (b.take i) (vs.take i)
  | b, vs, 0, _ => TrsAt.nil
  | [], vs, i + 1, h => by
    rw [TrsAt] at h
    subst h
    exact TrsAt.nil
  | t :: r, vs, i + 1, h => by
    rw [TrsAt] at h
    obtain ⟨v, us, rfl, a, k⟩ := h
    rw [List.take_succ_cons, List.take_succ_cons, TrsAt]
    exact ⟨v, _, rfl, a, TrsAt.take i k⟩
theorem TrsAt.drop {K : PySem.W.Frag} {H : Hp} : ∀ {b : List Tr} {vs : List V} (i : Nat), TrsAt K H b vs → TrsAt K H (b.drop i) (vs.drop i)
  | b, vs, 0, h => h
  | [], vs, i + 1, h => by
    rw [TrsAt] at h
    subst h
    exact TrsAt.nil
  | t :: r, vs, i + 1, h => by
    rw [TrsAt] at h
    obtain ⟨v, us, rfl, a, k⟩ := h
    exact TrsAt.drop i k
theorem cut_to (xs : List V) (i : Nat) : cutV xs none (some (i : Int)) = xs.take i := by
  unfold cutV
  rw [HT.sIx_none, HT.sIx_nat, List.drop_zero, Nat.sub_zero]
  by_cases h : i ≤ xs.length
  · rw [Nat.min_eq_left h]
  · rw [Nat.min_eq_right (by omega), List.take_length, List.take_of_length_le (by omega)]
theorem cut_mid (xs : List V) (i : Nat) (h : i < xs.length) : cutV xs (some (i : Int)) (some ((i : Int) + 1)) = (xs.drop i).take 1 := by
  unfold cutV
  rw [HT.sIx_nat, show ((i : Int) + 1) = ((i + 1 : Nat) : Int) from rfl, HT.sIx_nat, Nat.min_eq_left (Nat.le_of_lt h), Nat.min_eq_left h]
  congr 1
  omega
theorem cut_whole (xs : List V) (lo hi : Option Int) (h : HT.sIx xs.length 0 lo = 0 ∧ HT.sIx xs.length xs.length hi = xs.length) : cutV xs lo hi = xs := by
  unfold cutV
  rw [h.1, h.2, List.drop_zero, Nat.sub_zero, List.take_length]
theorem body_cut {K : PySem.W.Frag} {H : Hp} {b c : List Tr} {a : Addr} {vs : List V} {lo hi : Option Int} {Q : V → Hp → Prop} (sq : SqT K H a vs) (tr : TrsAt K H b vs) (tc : TrsAt K H c (cutV vs lo hi)) (q : ∀ v' H', Same H H' → BodyAt K H' c v' → Q v' H') : rSlA K (.ref a) lo hi H Q := by
  refine ⟨a, vs, rfl, sq, fun h => ?_, fun _ p np => ?_⟩
  · rw [cut_whole vs lo hi h] at tc
    exact q _ H (Same.refl H) ⟨a, vs, rfl, sq, tc⟩
  · exact q _ _ (same_new np) ⟨p, _, rfl, SqT.of upd_same, TrsAt.kt (Kt.same (same_new np)) _ _ tc⟩
/-! ### whether a register is assigned at all -/
mutual
def Tr.nam (x : Int) : Tr → Bool
  | .op w as => decide (x ∈ asgs w as)
  | .loop k b => decide (0 < k) && nams x b
def nams (x : Int) : List Tr → Bool
  | [] => false
  | t :: r => t.nam x || nams x r
end
theorem la_none (x : Int) : ∀ {E : List Tr}, la x E = none ↔ ∀ t ∈ E, t.asg x = false
  | [] => by
    constructor
    · intro _ t m
      cases m
    · intro _
      rfl
  | t :: r => by
    have ih := la_none x (E := r)
    show (match la x r with | some j => some (j + 1) | none => if t.asg x = true then some 0 else none) = none ↔ _
    cases h : la x r with
    | some j =>
      constructor
      · intro z
        cases z
      · intro z
        have := ih.mpr fun u m => z u (List.mem_cons_of_mem _ m)
        rw [h] at this
        cases this
    | none =>
      have h2 := ih.mp h
      show (if t.asg x = true then some 0 else none) = none ↔ _
      by_cases g : t.asg x = true
      · rw [if_pos g]
        constructor
        · intro z
          cases z
        · intro z
          rw [z t List.mem_cons_self] at g
          cases g
      · rw [if_neg g]
        constructor
        · intro _ u m
          rcases List.mem_cons.mp m with rfl | m
          · exact Bool.eq_false_iff.mpr g
          · exact h2 u m
        · intro _
          rfl
mutual
theorem Tr.nam_iff (x : Int) : ∀ (t : Tr) (n : Nat), t.wf n → (t.nam x = false ↔ ∀ u ∈ t.ex, u.asg x = false)
  | .op w as, n, _ => by
    rw [Tr.nam, Tr.ex]
    constructor
    · intro h u m
      rw [List.mem_singleton.mp m]
      exact h
    · intro h
      exact h _ (List.mem_singleton.mpr rfl)
  | .loop k b, 0, h => by rw [Tr.wf] at h; exact h.elim
  | .loop k b, n + 1, h => by
    rw [Tr.wf] at h
    have ih := nams_iff x b n h.2.2.2
    rw [Tr.nam, Tr.ex]
    constructor
    · intro z u m
      obtain ⟨xs, m1, m2⟩ := List.mem_flatten.mp m
      obtain ⟨m3, m4⟩ := List.mem_replicate.mp m1
      rw [m4] at m2
      rw [decide_eq_true (show 0 < k by omega), Bool.true_and] at z
      exact ih.mp z u m2
    · intro z
      by_cases g : 0 < k
      · rw [decide_eq_true g, Bool.true_and]
        refine ih.mpr fun u m => z u (List.mem_flatten.mpr ⟨exs b, List.mem_replicate.mpr ⟨by omega, rfl⟩, m⟩)
      · rw [decide_eq_false g, Bool.false_and]
theorem nams_iff (x : Int) : ∀ (b : List Tr) (n : Nat), wfs b n → (nams x b = false ↔ ∀ u ∈ exs b, u.asg x = false)
  | [], n, _ => by
    rw [nams, exs]
    constructor
    · intro _ u m
      cases m
    · intro _
      rfl
  | t :: r, n, h => by
    rw [wfs] at h
    have h1 := Tr.nam_iff x t n h.1
    have h2 := nams_iff x r n h.2
    rw [nams, exs, Bool.or_eq_false_iff, h1, h2]
    constructor
    · rintro ⟨a, b⟩ u m
      rcases List.mem_append.mp m with m | m
      · exact a u m
      · exact b u m
    · intro z
      exact ⟨fun u m => z u (List.mem_append.mpr (.inl m)), fun u m => z u (List.mem_append.mpr (.inr m))⟩
end
theorem la_get (x : Int) : ∀ {E : List Tr} {j : Nat}, la x E = some j → ∃ t, E[j]? = some t ∧ t.asg x = true
  | [], j, h => by cases h
  | t :: r, j, h => by
    have h : (match la x r with | some j => some (j + 1) | none => if t.asg x = true then some 0 else none) = some j := h
    cases e : la x r with
    | some i =>
      rw [e] at h
      cases h
      obtain ⟨u, h1, h2⟩ := la_get x e
      exact ⟨u, h1, h2⟩
    | none =>
      rw [e] at h
      have h : (if t.asg x = true then some 0 else none) = some j := h
      by_cases g : t.asg x = true
      · rw [if_pos g] at h
        cases h
        exact ⟨t, rfl, g⟩
      · rw [if_neg g] at h
        cases h
theorem la_ltL (x : Int) {E : List Tr} {j : Nat} (h : la x E = some j) : j < E.length := by
  obtain ⟨t, h1, _⟩ := la_get x h
  exact (List.getElem?_eq_some_iff.mp h1).1
/-- just behind a step that assigns it, it is this step -/
theorem la_at (x : Int) {E : List Tr} {j : Nat} {t : Tr} (e : E[j]? = some t) (a : t.asg x = true) : la x (E.take (j + 1)) = some j := by
  rw [List.take_add_one, e, la_append]
  have : la x (some t).toList = some 0 := by
    show (if t.asg x = true then some 0 else none) = some 0
    rw [if_pos a]
  rw [this]
  have l := (List.getElem?_eq_some_iff.mp e).1
  show some ((E.take j).length + 0) = some j
  rw [List.length_take]
  congr 1
  omega
end Lj
namespace Lj
open PySem PySem.Spec PyProof.Rows L2
mutual
theorem Tr.args_in : ∀ (t : Tr) (n : Nat), t.wf n → t.hasArgs → ∀ u ∈ t.ex, u.hasArgs
  | .op w as, n, _, h => by
    rw [Tr.ex]
    intro u m
    rw [List.mem_singleton.mp m]
    exact h
  | .loop k b, 0, h, _ => by rw [Tr.wf] at h; exact h.elim
  | .loop k b, n + 1, h, a => by
    rw [Tr.wf] at h
    rw [Tr.hasArgs] at a
    rw [Tr.ex]
    intro u m
    obtain ⟨xs, m1, m2⟩ := List.mem_flatten.mp m
    rw [(List.mem_replicate.mp m1).2] at m2
    exact exs_args b n h.2.2.2 a u m2
theorem exs_args : ∀ (b : List Tr) (n : Nat), wfs b n → haveArgs b → ∀ u ∈ exs b, u.hasArgs
  | [], _, _, _ => by rw [exs]; intro u m; cases m
  | t :: r, n, h, a => by
    rw [wfs] at h
    rw [haveArgs] at a
    rw [exs]
    intro u m
    rcases List.mem_append.mp m with m | m
    · exact Tr.args_in t n h.1 a.1 u m
    · exact exs_args r n h.2 a.2 u m
end
theorem args_in {b : List Tr} {n j : Nat} {z : Str} {as : List Int} (a : haveArgs b) (h : wfs b n) (e : (exs b)[j]? = some (.op z as)) : as ≠ [] := by
  have := exs_args b n h a _ (List.mem_of_getElem? e)
  rw [Tr.hasArgs] at this
  exact this
end Lj
set_option Elab.async false
set_option linter.all false
set_option maxRecDepth 100000
namespace Lj
open PySem PySem.Spec PyProof.Rows L2
section
variable {X : Cx} {K : PySem.W.Frag}
theorem sl_tupAK (h : X.K = K) : SlR X (rSlA K) := h ▸ sl_tupA
end
mutual
/-- G of each instruction but loops -/
def Tr.allG (G : Str → List Int → Prop) : Tr → Prop
  | .op w as => G w as
  | .loop _ b => allGs G b
def allGs (G : Str → List Int → Prop) : List Tr → Prop
  | [] => True
  | t :: r => t.allG G ∧ allGs G r
end
theorem allGs_get {G : Str → List Int → Prop} : ∀ {b : List Tr} {i : Nat} {t : Tr}, allGs G b → b[i]? = some t → t.allG G
  | [], _, _, _, e => by simp at e
  | t :: r, 0, u, h, e => by
    cases e
    rw [allGs] at h
    exact h.1
  | t :: r, i + 1, u, h, e => by
    rw [allGs] at h
    exact allGs_get (i := i) h.2 e
theorem allGs_mem {G : Str → List Int → Prop} : ∀ {b : List Tr}, (∀ t ∈ b, t.allG G) → allGs G b
  | [], _ => by rw [allGs]; trivial
  | t :: r, h => by
    rw [allGs]
    exact ⟨h t List.mem_cons_self, allGs_mem fun u m => h u (List.mem_cons_of_mem _ m)⟩
mutual
theorem Tr.made_allG {G : Str → List Int → Prop} {R : Int → Prop} : ∀ (t : Tr) (l d : Nat), t.made G R l d → t.allG G
  | .op w as, l, d, h => by
    rw [Tr.made] at h
    rw [Tr.allG]
    exact h
  | .loop k b, l, 0, h => by rw [Tr.made] at h; exact h.elim
  | .loop k b, l, d + 1, h => by
    rw [Tr.made] at h
    rw [Tr.allG]
    exact mades_allG b (l / 2) d h.2.2
theorem mades_allG {G : Str → List Int → Prop} {R : Int → Prop} : ∀ (b : List Tr) (l d : Nat), mades G R b l d → allGs G b
  | [], _, _, _ => by rw [allGs]; trivial
  | t :: r, l, d, h => by
    rw [mades] at h
    rw [allGs]
    exact ⟨Tr.made_allG t l d h.1, mades_allG r l d h.2⟩
end
theorem PT.good {G : Str → List Int → Prop} {b : List Tr} {ps : List Int} {t : Tr} {r st : Int} (p : PT b ps t r st) : allGs G b → t.allG G := by
  induction p with
  | here e => exact fun h => allGs_get h e
  | into e h0 h1 p ih =>
    intro h
    have := allGs_get h e
    rw [Tr.allG] at this
    exact ih this
theorem idx_unique {b : List Tr} {n i j : Nat} {t u : Tr} {x y : Int} (h : wfs b n) (ei : b[i]? = some t) (ej : b[j]? = some u) (x0 : 0 ≤ x) (x1 : x < t.len) (y0 : 0 ≤ y) (y1 : y < u.len) (e : lens (b.take i) + x = lens (b.take j) + y) : i = j := by
  have mono : ∀ {i j : Nat}, i ≤ j → lens (b.take i) ≤ lens (b.take j) := fun {i j} hij => by
    have e2 : b.take i = (b.take j).take i := by rw [List.take_take, Nat.min_eq_left hij]
    have := lens_split (b.take j) i
    rw [← e2] at this
    have h2 := (lens_bd _ n (wfs_drop (i := i) (wfs_take (i := j) h))).1
    omega
  have li := lens_nextL ei
  have lj := lens_nextL ej
  by_cases g : i < j
  · have := mono (show i + 1 ≤ j by omega)
    omega
  · by_cases g2 : j < i
    · have := mono (show j + 1 ≤ i by omega)
      omega
    · omega
/-- at most one path for a step -/
theorem PT.unique {b : List Tr} {ps : List Int} {t : Tr} {r st : Int} (p : PT b ps t r st) : ∀ {n : Nat} {ps2 : List Int} {z z2 : Str} {as as2 : List Int}, wfs b n → t = .op z as → r = 0 → PT b ps2 (.op z2 as2) 0 st → ps2 = ps ∧ Tr.op z2 as2 = .op z as := by
  induction p with
  | @here b i t r e =>
    intro n ps2 z z2 as as2 h et er p2
    subst et er
    generalize hs : lens (b.take i) + 0 = st at p2
    generalize ht : Tr.op z2 as2 = t2 at p2
    generalize hr : (0 : Int) = r2 at p2
    cases p2 with
    | @here _ j _ _ e2 =>
      subst ht hr
      have ij := idx_unique h e e2 (Int.le_refl 0) (by rw [Tr.len]; decide) (Int.le_refl 0) (by rw [Tr.len]; decide) hs
      subst ij
      rw [e] at e2
      cases e2
      exact ⟨rfl, rfl⟩
    | @into _ b' j k turn _ st' _ ps' e2 h0 h1 p' =>
      subst ht hr
      have wt := wfs_get h e2
      cases n with
      | zero => rw [Tr.wf] at wt; exact wt.elim
      | succ n =>
        rw [Tr.wf] at wt
        obtain ⟨s0, s1, _⟩ := p'.step wt.2.2.2 (Int.le_refl 0) (by rw [Tr.len]; decide)
        have m0 : 0 ≤ turn * lens b' := Int.mul_nonneg h0 (by omega)
        have m1 : turn * lens b' + lens b' ≤ k * lens b' := by
          have := Int.mul_le_mul_of_nonneg_right (show turn + 1 ≤ k by omega) (show 0 ≤ lens b' by omega)
          rw [Int.add_mul, Int.one_mul] at this
          exact this
        have ij := idx_unique h e e2 (Int.le_refl 0) (by rw [Tr.len]; decide) (show 0 ≤ turn * lens b' + st' by omega) (by rw [Tr.len]; omega) hs
        subst ij
        rw [e] at e2
        cases e2
  | @into b b' i k turn r st t ps e h0 h1 p ih =>
    intro n ps2 z z2 as as2 h et er p2
    have wt := wfs_get h e
    cases n with
    | zero => rw [Tr.wf] at wt; exact wt.elim
    | succ n =>
      rw [Tr.wf] at wt
      have p0 := p
      subst et er
      obtain ⟨s0, s1, _⟩ := p0.step wt.2.2.2 (Int.le_refl 0) (by rw [Tr.len]; decide)
      have m0 : 0 ≤ turn * lens b' := Int.mul_nonneg h0 (by omega)
      have m1 : turn * lens b' + lens b' ≤ k * lens b' := by
        have := Int.mul_le_mul_of_nonneg_right (show turn + 1 ≤ k by omega) (show 0 ≤ lens b' by omega)
        rw [Int.add_mul, Int.one_mul] at this
        exact this
      generalize hs : lens (b.take i) + (turn * lens b' + st) = st2 at p2
      generalize ht : Tr.op z2 as2 = t2 at p2
      generalize hr : (0 : Int) = r2 at p2
      cases p2 with
      | @here _ j _ _ e2 =>
        subst ht hr
        have ij := idx_unique h e e2 (show 0 ≤ turn * lens b' + st by omega) (by rw [Tr.len]; omega) (Int.le_refl 0) (by rw [Tr.len]; decide) hs
        subst ij
        rw [e] at e2
        cases e2
      | @into _ b2 j k2 turn2 _ st' _ ps' e2 g0 g1 p' =>
        subst ht hr
        have wt2 := wfs_get h e2
        rw [Tr.wf] at wt2
        obtain ⟨q0, q1, _⟩ := p'.step wt2.2.2.2 (Int.le_refl 0) (by rw [Tr.len]; decide)
        have n0 : 0 ≤ turn2 * lens b2 := Int.mul_nonneg g0 (by omega)
        have n1 : turn2 * lens b2 + lens b2 ≤ k2 * lens b2 := by
          have := Int.mul_le_mul_of_nonneg_right (show turn2 + 1 ≤ k2 by omega) (show 0 ≤ lens b2 by omega)
          rw [Int.add_mul, Int.one_mul] at this
          exact this
        have ij := idx_unique h e e2 (show 0 ≤ turn * lens b' + st by omega) (by rw [Tr.len]; omega) (show 0 ≤ turn2 * lens b2 + st' by omega) (by rw [Tr.len]; omega) hs
        subst ij
        rw [e] at e2
        cases e2
        have et : turn = turn2 := by
          have hs2 : turn * lens b' + st = turn2 * lens b' + st' := by omega
          by_cases g : turn < turn2
          · have := Int.mul_le_mul_of_nonneg_right (show turn + 1 ≤ turn2 by omega) (show 0 ≤ lens b' by omega)
            rw [Int.add_mul, Int.one_mul] at this
            omega
          · by_cases g2 : turn2 < turn
            · have := Int.mul_le_mul_of_nonneg_right (show turn2 + 1 ≤ turn by omega) (show 0 ≤ lens b' by omega)
              rw [Int.add_mul, Int.one_mul] at this
              omega
            · omega
        subst et
        have es : st' = st := by omega
        subst es
        obtain ⟨i1, i2⟩ := ih wt.2.2.2 rfl rfl p'
        exact ⟨by rw [i1], i2⟩
theorem PT.ne {b : List Tr} {ps : List Int} {t : Tr} {r st : Int} (p : PT b ps t r st) : ps ≠ [] := by
  cases p <;> intro z <;> cases z
theorem cut_two (x y : V) (xs : List V) : cutV (x :: y :: xs) (some 2) none = xs := by
  unfold cutV
  rw [show HT.sIx (x :: y :: xs).length 0 (some 2) = min 2 (x :: y :: xs).length from HT.sIx_nat _ _ 2, HT.sIx_none, List.length_cons, List.length_cons, show min 2 (xs.length + 1 + 1) = 2 by omega]
  show xs.take (xs.length + 1 + 1 - 2) = xs
  rw [show xs.length + 1 + 1 - 2 = xs.length by omega]
  exact List.take_length
theorem cut_two_ne (x y : V) (xs : List V) : ¬ (HT.sIx (x :: y :: xs).length 0 (some 2) = 0 ∧ HT.sIx (x :: y :: xs).length (x :: y :: xs).length none = (x :: y :: xs).length) := by
  rw [show HT.sIx (x :: y :: xs).length 0 (some 2) = min 2 (x :: y :: xs).length from HT.sIx_nat _ _ 2, List.length_cons, List.length_cons, show min 2 (xs.length + 1 + 1) = 2 by omega]
  rintro ⟨h, _⟩
  cases h
/-- numbers of a path are bounded -/
theorem PT.small {b : List Tr} {ps : List Int} {t : Tr} {r st : Int} (p : PT b ps t r st) : ∀ {n : Nat}, wfs b n → b.length ≤ 1000 → ∀ m ∈ ps, 0 ≤ m ∧ m ≤ 10 ^ 18 := by
  induction p with
  | @here b i t r e =>
    intro n h hl m k
    have := (List.getElem?_eq_some_iff.mp e).1
    rw [List.mem_singleton.mp k]
    omega
  | @into b b' i k turn r st t ps e h0 h1 p ih =>
    intro n h hl m k'
    have := (List.getElem?_eq_some_iff.mp e).1
    have wt := wfs_get h e
    cases n with
    | zero => rw [Tr.wf] at wt; exact wt.elim
    | succ n =>
      rw [Tr.wf] at wt
      rcases List.mem_cons.mp k' with rfl | k'
      · omega
      · rcases List.mem_cons.mp k' with rfl | k'
        · omega
        · exact ih wt.2.2.2 wt.2.2.1 m k'
/-- the pair of a path and an instruction, shown -/
theorem pair_show {ps : List Int} {z : Str} {as : List Int} (hp : ∀ m ∈ ps, 0 ≤ m ∧ m ≤ 10 ^ 18) (hl : ps.length ≤ 100) (h : Short z as) : (PyData.tuple [.tuple (ps.map .int), Tr.datT (.op z as)]).showable = true ∧ (PyData.tuple [.tuple (ps.map .int), Tr.datT (.op z as)]).hasDict = false ∧
    (PyData.tuple [.tuple (ps.map .int), Tr.datT (.op z as)]).depth ≤ 64 ∧ (PyData.tuple [.tuple (ps.map .int), Tr.datT (.op z as)]).shown.length ≤ sizeLine := by
  have big : (10 ^ 18 : Nat) < 2 ^ 1000 := by decide +kernel
  obtain ⟨a1, a2, a3, a4, a5⟩ := leaf_all (leaf_ints (ns := ps) fun m k => by have := hp m k; omega)
  obtain ⟨b1, b2, b3, b4⟩ := Tr.made_show (G := Short) (R := fun _ => False) (fun _ _ h => h) (fun _ h => h.elim) (.op z as) 0 0 (by decide) (by rw [Tr.made]; exact h)
  have y := PySem.tupleText_len_le (PyData.shownAll (ps.map PyData.int))
  have x := PySem.tupleText_len_le [tupleText (PyData.shownAll (ps.map PyData.int)), PyData.shown (Tr.datT (.op z as))]
  rw [List.map_cons, List.map_cons, List.map_nil, List.sum_cons, List.sum_cons, List.sum_nil] at x
  rw [show ([tupleText (PyData.shownAll (ps.map PyData.int)), PyData.shown (Tr.datT (.op z as))] : List Str).length = 2 from rfl] at x
  rw [List.length_map] at a4 a5
  refine ⟨by rw [PyData.showable, PyData.showableAll, PyData.showable, a1, PyData.showableAll, b1, PyData.showableAll]; rfl, by rw [PyData.hasDict, PyData.hasDictAll, PyData.hasDict, a2, PyData.hasDictAll, b2, PyData.hasDictAll]; rfl,
    by rw [PyData.depth, PyData.depthAll, PyData.depth, a3, PyData.depthAll, PyData.depthAll]; omega, ?_⟩
  rw [PyData.shown, PyData.shownAll, PyData.shown, PyData.shownAll, PyData.shownAll, sizeLine_eq]
  have : sb 0 = 20000 := rfl
  omega
end Lj
set_option Elab.async false
set_option linter.all false
set_option maxRecDepth 100000
set_option maxHeartbeats 1000000
/-! ### for i, x in enumerate(t), t a tuple -/
namespace Lj
open PySem PySem.Spec PyProof.Rows L2
theorem meets_enum1 {v : Value} {o : Obj} {S : Heap → Prop} (B : Begins v o S) : Meets (Builtin.«enumerate.__new__» ⟨[.type "enumerate", v], []⟩) (fun _ R s => S s.heap ∧
    R (.ok (.ret (.ref (s.heap.push o).objs.size))) { s with heap := (s.heap.push o).push { cls := .type "enumerate", data := .fields #[.none, .bool false, .ref s.heap.objs.size, rawInt 0, .none, .none] } }) :=
  .of_wp fun prog w A R s h => by
    obtain ⟨hh, gg, dd, tt, oo⟩ := s
    obtain ⟨src, h⟩ := h
    have sub := sub_enumerate
    have walk : ∀ {A' : Around} {E : Value → Shared → Prop} {Q : Value → Shared → Prop}, Q (.ref hh.objs.size) ⟨hh.push o, gg, dd, tt, oo⟩ → wpAny (model prog w) A' (pyIter v) Q E ⟨hh, gg, dd, tt, oo⟩ := fun q => B.iter prog w _ _ ⟨hh, gg, dd, tt, oo⟩ _ src q
    wp_walk using walk
    refine wpAny_stack_any fun st => wpAny_pure ?_
    split
    · rename_i c _ _ _ _ _
      cases (c == Value.type "enumerate") <;> (wp_walk using walk; exact ⟨_, rfl, h⟩)
    · wp_walk using walk
      exact ⟨_, rfl, h⟩
section
variable {prog : Program} {w : World} {A : Around} {E : Value → Shared → Prop} {s : Shared}
theorem call_enum1 {v : Value} {o : Obj} {S : Heap → Prop} {Q : Value → Shared → Prop} (B : Begins v o S) (src : S s.heap)
    (h : ∀ h', IsEnum h' (s.heap.objs.size + 1) s.heap.objs.size 0 .none → h'.get? s.heap.objs.size = some o → (∀ b o, s.heap.get? b = some o → h'.get? b = some o) → Q (.ref (s.heap.objs.size + 1)) { s with heap := h' }) :
    wpAny (model prog w) A (call (.type "enumerate") [v]) Q E s := by
  refine callType_new F.called_enumerate (by decide) (F.typeCall_enumerate_1 _) (F.newCall_enumerate_1 _) (fun obj => F.args_object_init_2 obj _) F.entry_enumerate_new (meets_enum1 B) ⟨src, ?_⟩
  have sz : (s.heap.push o).objs.size = s.heap.objs.size + 1 := Heap.size_push ..
  have he := Heap.get?_push_size (s.heap.push o) (o := { cls := .type "enumerate", data := .fields #[.none, .bool false, .ref s.heap.objs.size, rawInt 0, .none, .none] }) rfl
  show _ ∧ _
  rw [sz] at he ⊢
  exact ⟨⟨_, he, rfl⟩, h _ he (Heap.get?_push_of_some _ (Heap.get?_push_size _ B.free)) fun b o x => Heap.get?_push_of_some _ (Heap.get?_push_of_some _ x)⟩
end
/-- the tuple at a, each item in a new pair -/
def IteT (K : PySem.W.Frag) (a : Addr) : It :=
  ⟨fun i H => ∃ (xs : List V) (x : V), SqT K H a xs ∧ xs[i]? = some x, fun i H v H' => ∃ T x, v = .ref T ∧ H T = none ∧ H' = upd H T (.tup [.int (i : Nat), x]) ∧ ∀ xs, SqT K H a xs → xs[i]? = some x, fun i H => ∃ xs : List V, SqT K H a xs ∧ xs.length = i⟩
theorem turn_enumT {P : Program} {w : World} {K : PySem.W.Frag} {elts : List Expr} {kk : Nat} {tpos : Pos} (a e it : Addr) :
    Turn P w K (.Tuple elts kk tpos) (IteT K a) [e, it] e (fun i h => (∃ old, IsEnum h e it ((i : Nat) : Int) old) ∧ h.IsTupleIter it a i ∧ e ≠ it) where
  mem := by simp
  obj := fun i h st b hb => by
    obtain ⟨⟨old, he⟩, ⟨o, ho, hc, hd⟩, _⟩ := st
    rcases (show b = e ∨ b = it by simpa using hb) with z | z
    · rw [z]
      exact ⟨_, he, fun v q => nomatch q⟩
    · rw [z]
      exact ⟨o, ho, fun v q => by rw [hd] at q; cases q⟩
  keep := fun i h h' st k => let ⟨⟨old, he⟩, hi, hne⟩ := st; ⟨⟨old, k e (by simp) _ he⟩, hi.at fun o q => k it (by simp) o q, hne⟩
  item := by
    intro X hP hw hK hc i pins s σ H E I hf st hg
    subst hP hw hK
    obtain ⟨⟨old, he⟩, hit, hne⟩ := st
    obtain ⟨xs, x, hq, hx⟩ := hg
    obtain ⟨its, rv, p, hz⟩ := I.tuple hq
    obtain ⟨u, hu, ru⟩ := rv.get hx
    have el : e < s.heap.objs.size := Heap.lt_size he
    have il : it < s.heap.objs.size := by obtain ⟨_, q, _⟩ := hit; exact Heap.lt_size q
    have hT0 : s.heap.IsTuple a its.toArray := p
    have ha : a ≠ it := fun z => by
      obtain ⟨o1, e1, c1, _⟩ := hit
      obtain ⟨o2, e2, c2, _⟩ := hT0
      rw [z, e1] at e2
      cases e2
      rw [c1] at c2
      exact absurd c2 (by decide)
    have ha2 : a ≠ e := fun z => by
      obtain ⟨o2, e2, c2, _⟩ := hT0
      rw [z, he] at e2
      cases e2
      exact absurd (show Value.type "enumerate" = Value.type "tuple" from c2) (by decide)
    have hi : i < its.toArray.size := by
      have := (List.getElem?_eq_some_iff.mp hu).1
      simpa using this
    refine wpAny_pyNext_enum_itemD (Draws.tuple (show X.A.in1.handled = none from I.ok.hd hc) it a ha its.toArray) he ⟨hit, hT0⟩ hi hne (by simp [hne, Ne.symm ha2]) fun x' h' tk hPx ho hst' hT hsz hk => ?_
    have ex : x' = u := by
      have : its.toArray[i]? = some x' := hPx
      rw [List.getElem?_toArray, hu] at this
      exact (Option.some.inj this).symm
    subst ex
    refine ⟨_, rfl, wpAny_letOwnedTupleGo_enum (s := { s with heap := h', toks := tk + 1 }) ho fun h'' he' sb => ?_⟩
    have hT2 : h''.get? s.heap.objs.size = some { cls := .type "tuple", data := .seq #[.int i tk, x'] } := (sb.2 _ (Nat.ne_of_gt el)).trans hT
    have new : ObjOk X.prog X.w (upd H s.heap.objs.size (.tup [.int (i : Nat), x])) h'' s.heap.objs.size (.tup [.int (i : Nat), x]) :=
      ⟨by show 2 ≤ sizeLine; decide, [.int i tk, x'], .cons ⟨_, rfl⟩ (.cons ru .nil), ⟨_, hT2, rfl, _, rfl⟩⟩
    have I1 : Inv X pins σ (upd H s.heap.objs.size (.tup [.int (i : Nat), x])) { s with heap := h'', toks := tk + 1 } :=
      I.turnedNew (ch := [e, it]) (fun b ob hb q => (sb.2 b (fun z => hb (by simp [z]))).trans (hk b ob (fun z => hb (by simp [z])) (fun z => hb (by simp [z])) q)) hf (Nat.le_refl _) new
    refine ⟨.ref s.heap.objs.size, _, I1, rfl, ⟨_, x, rfl, I.hok.fresh (Nat.le_refl _), rfl, fun ys hy => by rw [I.tuple_inj hy hq]; exact hx⟩, ⟨⟨x', ?_⟩, hst'.1.at fun o q => (sb.2 it (Ne.symm hne)).trans q, hne⟩, fun b hb => ?_⟩
    · rw [show ((i + 1 : Nat) : Int) = (i : Int) + 1 by omega]
      exact he'
    · have lt : b < s.heap.objs.size := by
        rcases (show b = e ∨ b = it by simpa using hb) with z | z
        · rw [z]; exact el
        · rw [z]; exact il
      rw [upd_ne (Nat.ne_of_lt lt)]
      exact (hf b hb).1
  done := by
    intro X hP hw hK hc i pins s σ H E I hf st hg
    subst hP hw hK
    obtain ⟨⟨old, he⟩, hit, hne⟩ := st
    obtain ⟨xs, hq, hx⟩ := hg
    obtain ⟨its, rv, p, hz⟩ := I.tuple hq
    obtain ⟨f0, f1, f2, f3, f4, f5⟩ := hf it (by simp)
    have hT0 : s.heap.IsTuple a its.toArray := p
    have ha : a ≠ it := fun z => by
      obtain ⟨o1, e1, c1, _⟩ := hit
      obtain ⟨o2, e2, c2, _⟩ := hT0
      rw [z, e1] at e2
      cases e2
      rw [c1] at c2
      exact absurd c2 (by decide)
    have hl : its.toArray.size = i := by
      have := rv.length
      simp
      omega
    subst hl
    exact wpAny_pyNext_enum_endD (Draws.tuple (show X.A.in1.handled = none from I.ok.hd hc) it a ha its.toArray) he ⟨hit, hT0⟩ fun h' eb => ⟨rfl, I.turned (t' := s.toks) (fun b o hb q => eb b o hb q) f0 f1 f3 f4 f5⟩
  self := fun A i s Q E st h => let ⟨⟨_, he⟩, _⟩ := st; wpAny_pyIter_enum he h
def iEnumT (K : PySem.W.Frag) (ta : TA) : TI := fun σ H R => ta σ H fun vs H1 => ∃ a xs, vs = [.ref a] ∧ SqT K H1 a xs ∧ R (IteT K a) H1
theorem pi_enumT {X : Cx} {e : Expr} {ta : TA} {p pos tpos : Pos} {elts : List Expr} {kk : Nat} (hg : Gl X "enumerate") (hm : X.mg "enumerate" = none) (ha : PA X [e] ta) (hs : starEach [e] X.env = [(false, eval e X.env)] := by rfl) :
    PI X (.Tuple elts kk tpos) (.Call (.Name "enumerate" p) [e] [] pos) (iEnumT X.K ta) := by
  refine ⟨fun pins s σ H R I h => ?_⟩
  refine Call_ (ld_blt I hg hm boot_enumerate (PyProof.Rows.callWith_type1 (thn (ha.run pos pins s σ H _ I h) fun us s1 ⟨vs, H1, I1, r1, q1⟩ => ?_) hs rfl))
  obtain ⟨a, xs, ex, hq, q⟩ := q1
  subst ex
  obtain ⟨u, rfl, ru⟩ := r1.one
  cases ru
  obtain ⟨its, rv, p', hz⟩ := I1.tuple hq
  have hT0 : s1.heap.IsTuple a its.toArray := p'
  refine call_enum1 (begins_tuple a its.toArray) hT0 fun h' he hit hk => wpAny_pyIter_enum he ?_
  have I2 : Inv X pins σ H1 { s1 with heap := h' } := I1.kept (t' := s1.toks) hk
  refine ⟨s1.heap.objs.size + 1, [s1.heap.objs.size + 1, s1.heap.objs.size], _, _, H1, rfl, I2, turn_enumT a (s1.heap.objs.size + 1) s1.heap.objs.size, ⟨⟨.none, he⟩, ⟨_, hit, rfl, rfl⟩, Nat.succ_ne_self _⟩, fun b hb => ?_, q⟩
  have hle : s1.heap.objs.size ≤ b := by
    rcases (show b = s1.heap.objs.size + 1 ∨ b = s1.heap.objs.size by simpa using hb) with z | z
    · rw [z]; exact Nat.le_add_right _ _
    · rw [z]; exact Nat.le_refl _
  exact I1.fpOk hle (I1.hok.fresh hle)
theorem walk_enumT {K : PySem.W.Frag} {a : Addr} {xs : List V} : Walk (IteT K a) xs.length (fun H => SqT K H a xs) (YPair (fun i => some (.int (i : Nat))) (fun i => xs[i]?)) := by
  refine ⟨fun i _ hi q => ⟨xs, xs[i], q, by simp [hi]⟩, fun _ q => ⟨xs, q, rfl⟩, fun i H v H' _ q y => ?_⟩
  obtain ⟨T, x, h1, h2, h3, h4⟩ := y
  exact ⟨T, .int (i : Nat), x, h1, h2, h3, rfl, h4 xs q⟩
end Lj
set_option Elab.async false
set_option linter.all false
set_option maxRecDepth 100000
namespace Lj
open PySem PySem.Spec PyProof.Rows L2
/-! ### all paths, in the order of the steps -/
mutual
def Tr.pth (i : Nat) : Tr → List (List Int × Tr)
  | .op w as => [([(i : Int)], .op w as)]
  | .loop k b => ((List.range k.toNat).map fun j : Nat => (pths 0 b).map fun q => ((i : Int) :: (j : Int) :: q.1, q.2)).flatten
def pths (i : Nat) : List Tr → List (List Int × Tr)
  | [] => []
  | t :: r => t.pth i ++ pths (i + 1) r
end
/-- the first m rounds -/
def rnds (i m : Nat) (ps : List (List Int × Tr)) : List (List Int × Tr) := ((List.range m).map fun j : Nat => ps.map fun q => ((i : Int) :: (j : Int) :: q.1, q.2)).flatten
theorem rnds_succ (i m : Nat) (ps : List (List Int × Tr)) : rnds i (m + 1) ps = rnds i m ps ++ ps.map fun q => ((i : Int) :: (m : Int) :: q.1, q.2) := by
  unfold rnds
  rw [List.range_succ, List.map_append, List.flatten_append, List.map_singleton, List.flatten_singleton]
theorem rnds_len (i : Nat) (ps : List (List Int × Tr)) : ∀ m, (rnds i m ps).length = m * ps.length
  | 0 => by
    rw [Nat.zero_mul]
    rfl
  | m + 1 => by rw [rnds_succ, List.length_append, rnds_len i ps m, List.length_map, Nat.succ_mul]
mutual
theorem Tr.pth_len : ∀ (t : Tr) (i : Nat), (t.pth i).length = t.ex.length
  | .op w as, i => by rw [Tr.pth, Tr.ex]; rfl
  | .loop k b, i => by
    rw [Tr.pth, Tr.ex, flat_len, ← pths_len b 0]
    exact rnds_len i _ _
theorem pths_len : ∀ (b : List Tr) (i : Nat), (pths i b).length = (exs b).length
  | [], i => by rw [pths, exs]; rfl
  | t :: r, i => by rw [pths, exs, List.length_append, List.length_append, Tr.pth_len t i, pths_len r (i + 1)]
end
theorem rnds_get {i : Nat} {ps : List (List Int × Tr)} : ∀ {m st : Nat} {q : List Int × Tr}, (rnds i m ps)[st]? = some q → ∃ j st' q', j < m ∧ ps[st']? = some q' ∧ q = ((i : Int) :: (j : Int) :: q'.1, q'.2) ∧ st = j * ps.length + st'
  | 0, st, q, h => by
    have h' : ([] : List (List Int × Tr))[st]? = some q := h
    simp at h'
  | m + 1, st, q, h => by
    rw [rnds_succ] at h
    by_cases g : st < (rnds i m ps).length
    · rw [List.getElem?_append_left g] at h
      obtain ⟨j, st', q', h1, h2, h3, h4⟩ := rnds_get h
      exact ⟨j, st', q', by omega, h2, h3, h4⟩
    · rw [List.getElem?_append_right (by omega), List.getElem?_map] at h
      obtain ⟨q', h1, h2⟩ := Option.map_eq_some_iff.mp h
      rw [rnds_len] at g h1
      exact ⟨m, st - m * ps.length, q', by omega, h1, h2.symm, by omega⟩
mutual
/-- the path at st is that of the step st -/
theorem Tr.pth_get : ∀ (t : Tr) (n : Nat), t.wf n → ∀ {l r : List Tr} {st : Nat} {q : List Int × Tr}, (t.pth l.length)[st]? = some q → PT (l ++ t :: r) q.1 q.2 0 (lens l + (st : Int)) ∧ ∃ z as, q.2 = .op z as
  | .op w as, n, _, l, r, st, q, h => by
    rw [Tr.pth] at h
    have e : (l ++ Tr.op w as :: r)[l.length]? = some (.op w as) := by
      rw [List.getElem?_append_right (Nat.le_refl _), Nat.sub_self]
      rfl
    have tk : (l ++ Tr.op w as :: r).take l.length = l := by rw [List.take_append_of_le_length (Nat.le_refl _), List.take_length]
    cases st with
    | zero =>
      cases h
      have p := PT.here (r := 0) e
      rw [tk] at p
      exact ⟨p, w, as, rfl⟩
    | succ st =>
      have h' : ([] : List (List Int × Tr))[st]? = some q := h
      simp at h'
  | .loop k b, 0, h0, _, _, _, _, _ => by
    rw [Tr.wf] at h0
    exact h0.elim
  | .loop k b, n + 1, h0, l, r, st, q, h => by
    rw [Tr.wf] at h0
    rw [Tr.pth] at h
    obtain ⟨j, st', q', h1, h2, rfl, h4⟩ := rnds_get (i := l.length) (m := k.toNat) h
    have e : (l ++ Tr.loop k b :: r)[l.length]? = some (.loop k b) := by
      rw [List.getElem?_append_right (Nat.le_refl _), Nat.sub_self]
      rfl
    have tk : (l ++ Tr.loop k b :: r).take l.length = l := by rw [List.take_append_of_le_length (Nat.le_refl _), List.take_length]
    obtain ⟨p, z, as, ez⟩ := pths_get b n h0.2.2.2 (l := []) h2
    rw [List.nil_append, lens, Int.zero_add] at p
    have p2 := PT.into e (turn := (j : Int)) (by omega) (by omega) p
    rw [tk] at p2
    refine ⟨?_, z, as, ez⟩
    have el := exs_len b n h0.2.2.2
    rw [← pths_len b 0] at el
    have : (st : Int) = (j : Int) * lens b + (st' : Int) := by
      rw [h4, Int.natCast_add, Int.natCast_mul, el]
    rw [this]
    exact p2
theorem pths_get : ∀ (r : List Tr) (n : Nat), wfs r n → ∀ {l : List Tr} {st : Nat} {q : List Int × Tr}, (pths l.length r)[st]? = some q → PT (l ++ r) q.1 q.2 0 (lens l + (st : Int)) ∧ ∃ z as, q.2 = .op z as
  | [], n, _, l, st, q, h => by
    rw [pths] at h
    simp at h
  | t :: r, n, h0, l, st, q, h => by
    rw [wfs] at h0
    rw [pths] at h
    by_cases g : st < (t.pth l.length).length
    · rw [List.getElem?_append_left g] at h
      exact Tr.pth_get t n h0.1 h
    · rw [List.getElem?_append_right (by omega)] at h
      have h' : (pths (l ++ [t]).length r)[st - (t.pth l.length).length]? = some q := by
        rw [List.length_append]
        exact h
      obtain ⟨p, z⟩ := pths_get r n h0.2 h'
      rw [List.append_assoc] at p
      refine ⟨?_, z⟩
      have el := Tr.ex_len t n h0.1
      rw [← Tr.pth_len t l.length] at el
      have e2 : lens (l ++ [t]) = lens l + t.len := by
        rw [lens_map, List.map_append, List.sum_append, ← lens_map]
        show _ + (t.len + 0) = _
        rw [Int.add_zero]
      rw [e2] at p
      have : lens l + (st : Int) = lens l + t.len + ((st - (t.pth l.length).length : Nat) : Int) := by omega
      rw [this]
      exact p
end
/-! ### in the heap -/
def PthAt (K : PySem.W.Frag) (H : Hp) (q : List Int × Tr) (v : V) : Prop := ∃ a pa y, v = .ref a ∧ SqT K H a [.ref pa, y] ∧ SqT K H pa (q.1.map V.int) ∧ TrAt K H q.2 y
theorem PthAt.kt {K : PySem.W.Frag} {H H' : Hp} {q : List Int × Tr} {v : V} (k : Kt H H') (h : PthAt K H q v) : PthAt K H' q v := by
  obtain ⟨a, pa, y, e, s1, s2, t⟩ := h
  exact ⟨a, pa, y, e, k.sq s1, k.sq s2, TrAt.kt k _ _ t⟩
def PthsAt (K : PySem.W.Frag) (H : Hp) : List (List Int × Tr) → List V → Prop := Paired (PthAt K H)
theorem PthsAt.kt {K : PySem.W.Frag} {H H' : Hp} (k : Kt H H') : ∀ {qs : List (List Int × Tr)} {vs : List V}, PthsAt K H qs vs → PthsAt K H' qs vs
  | _, _, .nil => .nil
  | _, _, .cons h t => .cons (h.kt k) (PthsAt.kt k t)
theorem PthsAt.append {K : PySem.W.Frag} {H : Hp} : ∀ {qs rs : List (List Int × Tr)} {vs us : List V}, PthsAt K H qs vs → PthsAt K H rs us → PthsAt K H (qs ++ rs) (vs ++ us)
  | _, _, _, _, .nil, k => k
  | _, _, _, _, .cons h t, k => .cons h (PthsAt.append t k)
theorem PthsAt.length {K : PySem.W.Frag} {H : Hp} : ∀ {qs : List (List Int × Tr)} {vs : List V}, PthsAt K H qs vs → vs.length = qs.length
  | _, _, .nil => rfl
  | _, _, .cons _ t => by rw [List.length_cons, List.length_cons, PthsAt.length t]
theorem PthsAt.get {K : PySem.W.Frag} {H : Hp} : ∀ {qs : List (List Int × Tr)} {vs : List V} {i : Nat} {v : V}, PthsAt K H qs vs → vs[i]? = some v → ∃ q, qs[i]? = some q ∧ PthAt K H q v
  | _, _, i, _, .nil, e => by simp at e
  | q :: _, _, 0, _, .cons h _, e => by
    cases e
    exact ⟨q, rfl, h⟩
  | _ :: qs, _, i + 1, _, .cons _ t, e => PthsAt.get (i := i) t e
/-- as data -/
def datP (q : List Int × Tr) : PyData := .tuple [.tuple (q.1.map .int), q.2.dat]
theorem PthAt.dp {K : PySem.W.Frag} {H : Hp} {q : List Int × Tr} {v : V} {z : Str} {as : List Int} (h : PthAt K H q v) (e : q.2 = .op z as) : Dp K H v (datP q) := by
  obtain ⟨a, pa, y, rfl, s1, s2, t⟩ := h
  obtain ⟨ps, tr⟩ := q
  dsimp only at e
  subst e
  rw [TrAt] at t
  obtain ⟨x, rfl, sq⟩ := t
  exact .tup s1 (.cons (.tup s2 (dp_ints ps)) (.cons (.tup sq (.cons (.str z) (dp_ints as))) .nil))
/-- words of our own, and short -/
def OpsP (qs : List (List Int × Tr)) : Prop := ∀ q ∈ qs, ∃ z as, q.2 = .op z as ∧ z ∈ W7
theorem OpsP.dp {K : PySem.W.Frag} {H : Hp} : ∀ {qs : List (List Int × Tr)} {vs : List V}, OpsP qs → PthsAt K H qs vs → DpAll K H vs (qs.map datP)
  | _, _, _, .nil => .nil
  | q :: qs, _, o, .cons h t => by
    obtain ⟨z, as, e, _⟩ := o q List.mem_cons_self
    exact .cons (h.dp e) (OpsP.dp (fun u m => o u (List.mem_cons_of_mem _ m)) t)
theorem OpsP.lay : ∀ {qs : List (List Int × Tr)}, OpsP qs → PyData.canLayAll0 (qs.map datP) = true
  | [], _ => by rw [List.map_nil, PyData.canLayAll0]
  | q :: qs, o => by
    obtain ⟨z, as, e, hw⟩ := o q List.mem_cons_self
    rw [List.map_cons, PyData.canLayAll0, OpsP.lay (fun u m => o u (List.mem_cons_of_mem _ m)), datP, e, Tr.dat, PyData.canLay0, PyData.canLayAll0, PyData.canLay0, lay_ints]
    simp only [PyData.canLayAll0, PyData.canLay0, W7_ok hw, lay_ints]
    rfl
theorem datP_deep (q : List Int × Tr) {z : Str} {as : List Int} (e : q.2 = .op z as) : (datP q).depth ≤ 2 := by
  rw [datP, e, Tr.dat]
  simp only [PyData.depth, PyData.depthAll, depth_ints]
  decide
theorem OpsP.deep : ∀ {qs : List (List Int × Tr)}, OpsP qs → PyData.depthAll (qs.map datP) ≤ 2
  | [], _ => by rw [List.map_nil, PyData.depthAll]; exact Nat.zero_le _
  | q :: qs, o => by
    obtain ⟨z, as, e, hw⟩ := o q List.mem_cons_self
    have ih := OpsP.deep (qs := qs) (fun u m => o u (List.mem_cons_of_mem _ m))
    have h := datP_deep q e
    rw [List.map_cons, PyData.depthAll]
    omega
theorem OpsP.shaped {qs : List (List Int × Tr)} (o : OpsP qs) : SeqAt.shaped (.list (qs.map datP)) = true := by
  unfold SeqAt.shaped
  rw [PyData.canLay0, o.lay, PyData.depth, decide_eq_true (by have := o.deep; omega)]
  rfl
mutual
theorem Tr.pth_ops : ∀ (t : Tr) (i : Nat), t.fine → OpsP (t.pth i)
  | .op w as, i, h => by
    rw [Tr.fine] at h
    rw [Tr.pth]
    intro q m
    rw [List.mem_singleton.mp m]
    exact ⟨w, as, rfl, h⟩
  | .loop k b, i, h => by
    rw [Tr.fine] at h
    rw [Tr.pth]
    intro q m
    obtain ⟨xs, m1, m2⟩ := List.mem_flatten.mp m
    obtain ⟨j, _, rfl⟩ := List.mem_map.mp m1
    obtain ⟨q', m3, rfl⟩ := List.mem_map.mp m2
    exact pths_ops b 0 h.2 q' m3
theorem pths_ops : ∀ (b : List Tr) (i : Nat), fines b → OpsP (pths i b)
  | [], i, _ => by rw [pths]; intro q m; cases m
  | t :: r, i, h => by
    rw [fines] at h
    rw [pths]
    intro q m
    rcases List.mem_append.mp m with m | m
    · exact Tr.pth_ops t i h.1 q m
    · exact pths_ops r (i + 1) h.2 q m
end
theorem pths_take : ∀ (b : List Tr) (i j : Nat) (t : Tr), b[j]? = some t → pths i (b.take (j + 1)) = pths i (b.take j) ++ t.pth (i + j)
  | [], i, j, t, h => by simp at h
  | a :: r, i, 0, t, h => by
    cases h
    rw [List.take_succ_cons, List.take_zero, List.take_zero, pths, pths, pths, List.append_nil, List.nil_append, Nat.add_zero]
  | a :: r, i, j + 1, t, h => by
    rw [List.take_succ_cons, List.take_succ_cons, pths, pths, pths_take r (i + 1) j t h, List.append_assoc, Nat.add_right_comm, Nat.add_assoc]
end Lj
set_option Elab.async false
set_option linter.all false
set_option maxRecDepth 100000
set_option maxHeartbeats 2000000
/-! # errors of the program's own: __init__ says super().__init__(text), then stores one attribute -/
namespace Lj
open PySem PySem.W PySem.Calls PyProof.Rows PySem.HandSPX
/-! ### the text of __init__ -/
def eA (f : Str) (p1 p2 : Pos) : Arguments := { posonlyargs := [], args := [{ arg := "self", annotation := none, pos := p1 }, { arg := f, annotation := none, pos := p2 }], vararg := none, kwonlyargs := [], kw_defaults := [], kwarg := none, defaults := [] }
def eB (f m : Str) (p1 p2 p3 p4 p5 p6 q1 q2 q3 q4 : Pos) : List Stmt :=
  [.Expr (.Call (.Attribute (.Call (.Name "super" p1) [] [] p2) "__init__" p3) [.Constant (.str m) 0 p4] [] p5) p6, .Assign [.Attribute (.Name "self" q1) f q2] (.Name f q3) q4]
def eS (f : Str) : Scope := { kind := .function, names := [(PySem.Str.ofString "self", .local), (f, .local), (PySem.Str.ofString "__class__", .free), (PySem.Str.ofString "super", .globalImplicit)], isGenerator := false, isCoroutine := false, more := [] }
/-- a name that is none of the others in __init__ -/
structure Nm (f : Str) : Prop where
  s : (f == ("self" : Str)) = false
  c : (f == ("__class__" : Str)) = false
  u : (f == ("super" : Str)) = false
  d : (f == ("__debug__" : Str)) = false
  bd : ∀ (qual : Str) (p1 p2 : Pos) (b : List Stmt) (doc pm : Value) (an : Option Addr) (cdv ct : Value) (cc : Addr) (u v : Value), bindArgs (ksFn "__init__" qual (eA f p1 p2) b (eS f) .none .none doc pm an cdv ct cc) ⟨[u, v], []⟩ = pure [(("self" : Str), u), (f, v)]
theorem ev_super (qual m : Str) (sc : Scope) (L a cc : Addr) (cd : Value) (p3 p4 p5 p6 p7 : Pos) (h : (p5.endLine == p7.line) = true) : ∃ pl : Sem Bool, eval (.Call (.Attribute (.Call (.Name "super" p3) [] [] p4) "__init__" p5) [.Constant (.str m) 0 p6] [] p7) (ksEnv qual sc L a cd cc) = (do
      let ov ← attributeBase (.Call (.Name "super" p3) [] [] p4) "__init__" (ksEnv qual sc L a cd cc) (eval (.Call (.Name "super" p3) [] [] p4) (ksEnv qual sc L a cd cc))
      standAt p5.atName
      let (g, first) ← holding [ov] (getMethod ov "__init__" pl)
      callWith p7 g first (backTo p7 (starEach [.Constant (.str m) 0 p6] (ksEnv qual sc L a cd cc))) []) := by
  refine ⟨(do return (← importBound (.Call (.Name "super" p3) [] [] p4) (ksEnv qual sc L a cd cc)).getD true), ?_⟩
  show (do
    let ov ← attributeBase (.Call (.Name "super" p3) [] [] p4) "__init__" (ksEnv qual sc L a cd cc) (eval (.Call (.Name "super" p3) [] [] p4) (ksEnv qual sc L a cd cc))
    standAt p5.atName
    methodCall (.Call (.Name "super" p3) [] [] p4) "__init__" p5 p7 (ksEnv qual sc L a cd cc) ov 1 (backTo p7 (starEach [.Constant (.str m) 0 p6] (ksEnv qual sc L a cd cc))) (backToKw p7 (keywordEach [] (ksEnv qual sc L a cd cc)))) = _
  congr 1; funext ov; congr 1; funext u
  unfold methodCall methodCallPos
  simp only [h, Bool.or_true, if_true, pure_bind]
  rfl
theorem nm_value : Nm "value" := ⟨by decide +kernel, by decide +kernel, by decide +kernel, by decide +kernel, fun _ _ _ _ _ _ _ _ _ _ _ _ => rfl⟩
theorem nm_moment : Nm "moment" := ⟨by decide +kernel, by decide +kernel, by decide +kernel, by decide +kernel, fun _ _ _ _ _ _ _ _ _ _ _ _ => rfl⟩
theorem nm_x : Nm "x" := ⟨by decide +kernel, by decide +kernel, by decide +kernel, by decide +kernel, fun _ _ _ _ _ _ _ _ _ _ _ _ => rfl⟩
theorem nm_state : Nm "state" := ⟨by decide +kernel, by decide +kernel, by decide +kernel, by decide +kernel, fun _ _ _ _ _ _ _ _ _ _ _ _ => rfl⟩
theorem nm_line : Nm "line" := ⟨by decide +kernel, by decide +kernel, by decide +kernel, by decide +kernel, fun _ _ _ _ _ _ _ _ _ _ _ _ => rfl⟩
theorem nm_command : Nm "command" := ⟨by decide +kernel, by decide +kernel, by decide +kernel, by decide +kernel, fun _ _ _ _ _ _ _ _ _ _ _ _ => rfl⟩
theorem nm_size : Nm "size" := ⟨by decide +kernel, by decide +kernel, by decide +kernel, by decide +kernel, fun _ _ _ _ _ _ _ _ _ _ _ _ => rfl⟩
theorem nm_depth : Nm "depth" := ⟨by decide +kernel, by decide +kernel, by decide +kernel, by decide +kernel, fun _ _ _ _ _ _ _ _ _ _ _ _ => rfl⟩
/-- what the written part says of the error x, at C, and of its __init__, at fI -/
structure ErrTxt (P : Program) (K : Frag) (mg : Str → Option Value) (x f : Str) (C fI : Addr) : Prop where
  nm : Nm f
  gC : mg x = some (.ref C)
  cls : ∃ nm q N bs bm sn sub ab col dd k0 k1 k2 k3 k5, K.lookup C = some (excClassObj nm q C N bs bm true sn sub ab col dd k0 k1 k2 k3 k5 "ValueError.__new__") ∧ refsVE bm = true
  sa : findIn K (.ref C) "__setattr__" = some (some (.builtin "object.__setattr__"))
  ga : findIn K (.ref C) "__getattribute__" = some (some (.builtin "BaseException.__getattribute__"))
  gg : findIn K (.ref C) "__getattr__" = some none
  noN : findIn K (.ref C) f = some none
  iC : findIn K (.ref C) "__init__" = some (some (.ref fI))
  tC : typeIn K (.ref fI) = some (.type "function")
  kC : keepIn K (.ref C) = true
  exC : subIn K (.ref C) (.type "BaseException") = some true
  veC : subIn K (.ref C) (.type "ValueError") = some true
  tyC : typeIn K (.ref C) = some (.type "type")
  hdC : hasDictIn K C = true
  mrC : mroIn K C (.ref C) = some true
  suC : ks_superIn K C C "__init__" = some (some (.builtin "ValueError.__init__"))
  op : nsIn K cStatics "thirdparty.any" = some none
  gS : mg "super" = none
  top : (P.main.scope.names.lookup ("super" : Str)).isSome = false
  fn : ∃ (oc : Value) (od : Option Addr) (qual m : Str) (doc pm : Value) (an : Option Addr) (cda cc : Addr) (ct : Value) (osl : Array (Option Value)) (p1 p2 p3 p4 p5 p6 p7 p8 q1 q2 q3 q4 : Pos)
    (ccl : Value) (cdd : Option Addr) (vs : Array Value) (ccs : Array (Option Value)) (file : Str) (tf : Tok) (cl : Value) (cld : Option Addr) (csl : Array (Option Value)),
    K.lookup fI = some ⟨oc, od, .func (ksFn "__init__" qual (eA f p1 p2) (eB f m p3 p4 p5 p6 p7 p8 q1 q2 q3 q4) (eS f) .none .none doc pm an (.ref cda) ct cc), osl⟩ ∧ codeIn K (.ref cda) qual = true ∧
      K.lookup cda = some ⟨ccl, cdd, .fields vs, ccs⟩ ∧ vs[2]? = some (.str file tf) ∧ ((P.main.file : Str) == file) = true ∧ (p5.endLine == p7.line) = true ∧ K.lookup cc = some ⟨cl, cld, .cell (some (.ref C)), csl⟩
theorem one_size (v : Value) : [v].length ≤ sizeLine := by
  rw [sizeLine_eq]
  exact (by decide : 1 ≤ 16777216)
/-- what __init__ leaves of a fresh exception at x -/
structure InitEnd (f : Str) (h h' : Heap) (x C dx : Addr) (v : Value) : Prop where
  keep : ∀ b o, b ≠ x → h.get? b = some o → h'.get? b = some o
  obj : ∃ t1 : Addr, h'.get? x = some { cls := .ref C, dict := some dx, data := .fields #[.ref t1, .none, .none, .none, .bool false, .none] }
  dbig : h.objs.size ≤ dx
  dne : dx ≠ x
  ns : h'.Ns1 dx (fun y => if y = f then some v else none)
/-- a made error -/
structure OwnMade (f : Str) (h h' : Heap) (e C d : Addr) (v : Value) : Prop where
  keep : ∀ b o, h.get? b = some o → h'.get? b = some o
  new : h.objs.size ≤ e
  obj : ∃ oe vs, h'.get? e = some oe ∧ oe.cls = .ref C ∧ oe.dict = some d ∧ oe.data = .fields vs ∧ vs[1]? = some .none
  dbig : h.objs.size ≤ d
  dne : d ≠ e
  ns : h'.Ns1 d (fun y => if y = f then some v else none)
section
variable {prog : Program} {w : World} {A : Around} {E : Value → Shared → Prop} {R : Result → Shared → Prop} {s : Shared} {K : Frag} {mg mb : Str → Option Value} {x f : Str} {C fI : Addr}
theorem lk_self {f : Str} : (eS f).names.lookup ("self" : Str) = some .local := rfl
theorem lk_f (n : Nm f) : (eS f).names.lookup f = some .local := by
  have h := n.s
  show List.lookup f [(PySem.Str.ofString "self", NameKind.local), (f, .local), (PySem.Str.ofString "__class__", .free), (PySem.Str.ofString "super", .globalImplicit)] = _
  rw [List.lookup_cons]
  have h2 : (f == PySem.Str.ofString "self") = false := h
  rw [h2, List.lookup_cons, beq_self_eq_true]
theorem flip {a b : Str} (h : (a == b) = false) : (b == a) = false := by
  cases e : b == a with
  | false => rfl
  | true =>
    have := beq_iff_eq.mp e
    rw [this, beq_self_eq_true] at h
    cases h
theorem lk_class (n : Nm f) : (eS f).names.lookup ("__class__" : Str) = some .free := by
  have h := flip n.c
  show List.lookup (PySem.Str.ofString "__class__") [(PySem.Str.ofString "self", NameKind.local), (f, .local), (PySem.Str.ofString "__class__", .free), (PySem.Str.ofString "super", .globalImplicit)] = _
  rw [List.lookup_cons, show (PySem.Str.ofString "__class__" == PySem.Str.ofString "self") = false by decide +kernel, List.lookup_cons, show (PySem.Str.ofString "__class__" == f) = false from h, List.lookup_cons, beq_self_eq_true]
theorem lk_super (n : Nm f) : (eS f).names.lookup ("super" : Str) = some .globalImplicit := by
  have h := flip n.u
  show List.lookup (PySem.Str.ofString "super") [(PySem.Str.ofString "self", NameKind.local), (f, .local), (PySem.Str.ofString "__class__", .free), (PySem.Str.ofString "super", .globalImplicit)] = _
  rw [List.lookup_cons, show (PySem.Str.ofString "super" == PySem.Str.ofString "self") = false by decide +kernel, List.lookup_cons, show (PySem.Str.ofString "super" == f) = false from h, List.lookup_cons, show (PySem.Str.ofString "super" == PySem.Str.ofString "__class__") = false by decide +kernel, List.lookup_cons, beq_self_eq_true]
theorem err_init (T : ErrTxt prog K mg x f C fI) {e t0 : Addr} {v : Value} (X : K.In s.heap) (hlim : s.heap.NoLimit) (hG : s.heap.Ns mainGlobals mg) (hB : s.heap.Ns builtinsNs mb) (hmb : ∀ x : Str, x ≠ "__name__" → mb x = bootBuiltins x)
    (hx : s.heap.get? e = some (excO C t0)) (hnx : K.lookup e = none) (hroom : A.depth < recursionLimit)
    (hq : ∀ h' tk dx, InitEnd f s.heap h' e C dx v → R (.ok (.ret .none)) { s with heap := h', toks := tk }) :
    codeAny (model prog w) A (.call (.ref fI) ⟨[.ref e, v], []⟩) R s := by
  obtain ⟨oc, od, qual, m, doc, pm, an, cda, cc, ct, osl, p1, p2, p3, p4, p5, p6, p7, p8, q1, q2, q3, q4, ccl, cdd, vs, ccs, file, tf, cl, cld, csl, ho, hcd, hcode, hvs, hfile, hpos, hcell⟩ := T.fn
  obtain ⟨nm, q, N, bs, bm, sn, sub, ab, col, dd, k0, k1, k2, k3, k5, hC, hbm⟩ := T.cls
  have hcl : clsIn K C = some { name := nm, bases := bs, mro := .ref C :: bm, ns := N, qualname := q, hasDict := true, slotNames := sn, subclasses := sub, abstract := ab, collection := col, hasDel := false } := by unfold clsIn; rw [hC] <;> rfl
  have lf := lk_f T.nm
  have lc := lk_class T.nm
  have ls := lk_super T.nm
  have n := T.nm
  refine ks_codeAny_call_defAt (fd := ksFn "__init__" qual (eA f p1 p2) (eB f m p3 p4 p5 p6 p7 p8 q1 q2 q3 q4) (eS f) .none .none doc pm an (.ref cda) ct cc) (body := eB f m p3 p4 p5 p6 p7 p8 q1 q2 q3 q4) (binds := [("self", .ref e), (f, v)]) hroom (X _ _ ho) rfl hlim (codeRec_of X hcd) rfl
    (BindsTo.of_eq (n.bd _ _ _ _ _ _ _ _ _ _ _ _)) (fun y hy => ?_) (fun y hy => ?_) (fun h₁ hns hk₁ => ?_) rfl rfl rfl
  · rcases List.mem_cons.mp hy with rfl | hy
    · intro z; cases z
    rcases List.mem_cons.mp hy with rfl | hy
    · intro z; cases z
    rcases List.mem_cons.mp hy with rfl | hy
    · intro z; cases z
    rcases List.mem_cons.mp hy with rfl | hy
    · intro z; cases z
    cases hy
  · rcases List.mem_cons.mp hy with rfl | hy
    · exact lk_self
    rcases List.mem_cons.mp hy with rfl | hy
    · exact lf
    cases hy
  have hL : (fun y => ([("self", .ref e), (f, v)] : List (Str × Value)).reverse.lookup y) ("self" : Str) = some (.ref e) := by
    show List.lookup _ [(f, v), (("self" : Str), Value.ref e)] = _
    rw [List.lookup_cons, flip n.s, List.lookup_cons, beq_self_eq_true]
  have hV : (fun y => ([("self", .ref e), (f, v)] : List (Str × Value)).reverse.lookup y) f = some v := by
    show List.lookup _ [(f, v), (("self" : Str), Value.ref e)] = _
    rw [List.lookup_cons, beq_self_eq_true]
  obtain ⟨hp, g, d, tk, os⟩ := s
  have hx₁ := hk₁ _ _ hx
  have X₁ : K.In h₁ := X.keeps hk₁
  have Le : e ≠ hp.objs.size := Nat.ne_of_lt (Heap.lt_size hx)
  have I₁ : InstAt h₁ e (excO C t0) C none := ⟨hx₁, rfl, rfl, trivial⟩
  -- super().__init__(m)
  show PySem.wpAt _ _ _ (execs [_, _] (ksEnv qual (eS f) hp.objs.size fI (.ref cda) cc)) _ _ _
  obtain ⟨pl, ev⟩ := ev_super qual m (eS f) hp.objs.size fI cc (.ref cda) p3 p4 p5 p6 p7 hpos
  refine ks_wpAt_execs_cons (ks_wpAt_Expr_any (ks_wpAt_MethodCall (pl := pl) ?_ ev) rfl rfl)
  refine ks_wpAt_super_base (env := ksEnv qual (eS f) hp.objs.size fI (.ref cda) cc) ls lc (by decide) rfl (X₁ _ _ ho) rfl rfl rfl (X₁ _ _ hcode) rfl hvs hfile T.top ?_
  refine ks_loadName_global rfl ls (loadGlobal_builtin (env := ksEnv qual (eS f) hp.objs.size fI (.ref cda) cc) (hG.keeps hk₁) T.gS (hB.keeps hk₁) ((hmb _ (by decide +kernel)).trans (by first | boot_by_name | rfl | kernel_rfl)) ⟨rfl, ?_⟩)
  refine wpAny_loadName_free rfl lc rfl ⟨_, X₁ _ _ hcell, rfl⟩ ?_
  refine wpAny_loadName_local rfl lk_self hns hL ?_
  refine ks_wpAny_isType_cls (X₁ _ _ hC) rfl ⟨rfl, ?_⟩
  refine ks_wpAny_call_super (X₁ _ _ hC) rfl hx₁ rfl (fun c z => by cases z) (looks_mroIn X₁ T.mrC) (fun h₂ hso k₂ => ?_)
  have X₂ : K.In h₂ := X₁.keeps k₂
  have hx₂ := k₂ _ _ hx₁
  have I₂ : InstAt h₂ e (excO C t0) C none := ⟨hx₂, rfl, rfl, trivial⟩
  have hsu : alongIn K "__init__" (((Value.ref C :: bm).dropWhile (· != .ref C)).drop 1) = some (some (.builtin "ValueError.__init__")) := by
    have z := T.suC
    unfold ks_superIn at z
    rw [hcl] at z
    exact z
  refine kxs_getMethod kxs_ValueError hso (looks_opaque X₂ T.op) (l₀ := .ref C :: bm) ((looks_clsIn X₂ hcl).andThen .now) rfl X₂ hsu (I₂.type.andThen (looks_subIn X₂ T.veC)) (ks_ne X₂ I₂ hcl) (by decide +kernel) ?_
  have hmw : (h₂.push (kxs_mw "ValueError.__init__" e)).get? h₂.objs.size = some (kxs_mw "ValueError.__init__" e) := Heap.get?_push_at rfl rfl
  have k₃ : ∀ b o, h₂.get? b = some o → (h₂.push (kxs_mw "ValueError.__init__" e)).get? b = some o := fun b o z => Heap.get?_push_of_some _ z
  generalize h₂.push (kxs_mw "ValueError.__init__" e) = h₃ at hmw k₃
  have X₃ : K.In h₃ := X₂.keeps k₃
  have hx₃ := k₃ _ _ hx₂
  refine kxs_callWith (i := "ValueError.__init__") (x := e) (by rfl) ?_
  refine evalArgs_plain (spliced_cons (Constant_str (k := 0) (pos := p6) ?_))
  refine spliced_nil ⟨hmw, ?_⟩
  show wpAny _ _ (call (.ref h₂.objs.size) [Value.str m _] []) _ _ _
  refine wpAny_call (codeAny_of_tree ?_)
  show wpAny _ _ (callAny (.ref h₂.objs.size) ⟨[Value.str m _], []⟩) _ _ _
  simp only [callAny]
  refine wpAny_bind (wpAny_load hmw ?_)
  simp only [kxs_mw, show (Value.type "method-wrapper" == Value.type "method" || Value.type "method-wrapper" == Value.type "builtin_function_or_method" || Value.type "method-wrapper" == Value.type "method-wrapper") = true by decide, if_true]
  refine KFB.if_so (by decide) ?_
  refine wpAny_bind (check_bound_init F.excBase_ValueError.toExcCallFacts (X₃ _ _ hC) hx₃ rfl ?_)
  refine wpAny_bind (wpAny_pure (wpAny_pure ?_))
  refine ⟨plainId_quiet F.excBase_ValueError.init.plain _, codeAny_builtin F.excBase_ValueError.initEntry ?_⟩
  refine exc_init_tree (cls := .ref C) (t0 := t0) (dv := none) (c2 := .none) (c3 := .none) (b4 := .bool false) hx₃ (one_size _) fun h₄ k₄ hx₄ _ => ?_
  -- self.f = f
  have k13 : ∀ b o, h₁.get? b = some o → h₃.get? b = some o := fun b o z => k₃ b o (k₂ b o z)
  have X₄ : K.In h₄ := fun b o z => k₄ b o (fun y => by rw [y, hnx] at z; cases z) (X₃ b o z)
  have hns₄ : h₄.Ns hp.objs.size (fun y => ([("self", .ref e), (f, v)] : List (Str × Value)).reverse.lookup y) := hns.at fun o z => k₄ _ o (Ne.symm Le) (k13 _ o z)
  show PySem.wpAt _ _ _ (execs [_] (ksEnv qual (eS f) hp.objs.size fI (.ref cda) cc)) _ _ _
  refine ks_wpAt_execs_cons (ks_wpAt_Assign_Attr (PySem.wpAt_of_wpAny ?_) rfl)
  refine wpAny_Name (wpAny_loadName_local rfl lf hns₄ hV ?_) n.d
  refine wpAny_Name (wpAny_loadName_local rfl lk_self hns₄ hL ?_) (by decide +kernel)
  refine set_plain X₄ (ox := excO C _) (od := none) ⟨hx₄, rfl, rfl, trivial⟩ T.sa ?_
  refine exc_osa X₄ hx₄ hcl (show refsVE (.ref C :: bm) = true from hbm) rfl T.noN (fun h₅ tk₅ dx k₅ dn dne hx₅ hn₅ => ?_)
  refine PySem.wpAt_of_wpAny (wpAny_execs_nil (hq h₅ tk₅ dx ⟨fun b o hb z => k₅ b o hb (k₄ b o hb (k13 b o (hk₁ b o z))), ⟨_, hx₅⟩, ?_, dne, hn₅⟩))
  have z : hp.objs.size < h₄.objs.size := hns₄.lt
  exact Nat.le_of_lt (Nat.lt_of_lt_of_le z dn)
theorem err_made (T : ErrTxt prog K mg x f C fI) {v : Value} (X : K.In s.heap) (hlim : s.heap.NoLimit) (hG : s.heap.Ns mainGlobals mg) (hB : s.heap.Ns builtinsNs mb) (hmb : ∀ x : Str, x ≠ "__name__" → mb x = bootBuiltins x) (hroom : A.depth + 1 < recursionLimit)
    (hq : ∀ h' tk e d, OwnMade f s.heap h' e C d v → R (.ok (.ret (.ref e))) { s with heap := h', toks := tk }) :
    codeAny (model prog w) A (.call (.ref C) ⟨[v], []⟩) R s := by
  obtain ⟨nm, q, N, bs, bm, sn, sub, ab, col, dd, k0, k1, k2, k3, k5, hC, hbm⟩ := T.cls
  obtain ⟨hp, g, dr, tk, os⟩ := s
  have k : ∀ b o, hp.get? b = some o → ((hp.push (kdv_tup [v])).push (excO C hp.objs.size)).get? b = some o := fun b o e => Heap.get?_push_of_some _ (Heap.get?_push_of_some _ e)
  have hget : ((hp.push (kdv_tup [v])).push (excO C hp.objs.size)).get? (hp.objs.size + 1) = some (excO C hp.objs.size) := by heap_get
  have hnx : K.lookup (hp.objs.size + 1) = none := by
    cases e : K.lookup (hp.objs.size + 1) with
    | none => rfl
    | some o =>
      have z : hp.get? (hp.objs.size + 1) = some o := X _ _ e
      exact absurd (Nat.lt_of_succ_lt (Heap.lt_size z)) (Nat.lt_irrefl _)
  refine call_own F.excBase_ValueError (fun X => refsVE_contains X bm hbm) (X _ _ hC) (looks_findIn X T.iC) (fun self => bind_fn X self T.tC) (one_size v) ?_
  refine err_init (s := ⟨(hp.push (kdv_tup [v])).push (excO C hp.objs.size), g, dr, tk, os⟩) T (X.keeps k) (hlim.keeps k) (hG.keeps k) (hB.keeps k) hmb hget hnx ?_ fun h' tk' dx ⟨k', hx, dn, dne, hns⟩ => ?_
  · show A.depth + 1 < recursionLimit
    exact hroom
  · have old : ∀ b o, hp.get? b = some o → h'.get? b = some o := fun b o e => k' b o (Nat.ne_of_lt (Nat.lt_succ_of_lt (Heap.lt_size e))) (k b o e)
    have z : hp.objs.size + 1 + 1 ≤ dx := by
      first
        | (simpa only [Heap.size_push] using dn)
        | exact dn
        | (have q := dn; rw [Heap.size_push, Heap.size_push] at q; exact q)
    obtain ⟨t1, hx⟩ := hx
    exact ⟨rfl, hq h' tk' (hp.objs.size + 1) dx ⟨old, Nat.le_succ _, ⟨_, _, hx, rfl, rfl, rfl, rfl⟩, Nat.le_trans (Nat.le_trans (Nat.le_succ _) (Nat.le_succ _)) z, dne, hns⟩⟩
end
end Lj
set_option Elab.async false
set_option linter.all false
set_option maxRecDepth 100000
set_option maxHeartbeats 2000000
/-! # errors: made, raised, caught and kept as a value, asked -/
namespace Lj
open PySem PySem.Spec PyProof.Rows L2
/-! ### promises of defs that may raise, where nothing is being shown -/
structure FnE (P : Program) (w : World) (K : PySem.W.Frag) (mg : Str → Option Value) (base : Heap) (k : Nat) (f : Addr) (fd : FuncData) (ps : List Str) (sp : Sp) : Prop where
  len : ∀ vs H Q E, sp vs H Q E → vs.length = ps.length
  run : ∀ (A : Around) (out : List Env) (s : Shared) (H : Hp) (as : Args) (us : List Value) (vs : List V) (Q : VK) (E : XK), A.guards = some [] → Room k A → Env0 P w K mg base A out s H →
    BindsTo s fd as (ps.zip us) → Vals vs us → sp vs H Q E → codeAny (model P w) A (.call (.ref f) as) (CR (L2.CX P w) out P w H s Q E) s
section
variable {P : Program} {w : World} {K : PySem.W.Frag} {mg : Str → Option Value} {base : Heap} {j k : Nat} {f : Addr} {fd : FuncData} {ps : List Str} {sp sp' : Sp}
theorem FnE.up (F : FnE P w K mg base j f fd ps sp) (h : j ≤ k) : FnE P w K mg base k f fd ps sp := ⟨F.len, fun A out s H as us vs Q E g r => F.run A out s H as us vs Q E g (r.mono h)⟩
theorem FnE.weak (F : FnE P w K mg base k f fd ps sp) (h : ∀ vs H Q E, sp' vs H Q E → sp vs H Q E) : FnE P w K mg base k f fd ps sp' :=
  ⟨fun vs H Q E q => F.len vs H Q E (h _ _ _ _ q), fun A out s H as us vs Q E g r e b v q => F.run A out s H as us vs Q E g r e b v (h _ _ _ _ q)⟩
/-- by the def's body -/
theorem FnE.body {x qual : Str} {st : Stmt} {N : List Str} (F : Fun K x qual st f fd) (S : FnScope N ps (defScope st)) (len : ∀ vs H Q E, sp vs H Q E → vs.length = ps.length)
    (hb : ∀ (cdv : Value) (A : Around) (out : List Env) (s : Shared) (H : Hp) (vs : List V) (Q : VK) (E : XK), A.guards = some [] → Room k (A.deeper (envOfC qual (defScope st) s.heap.objs.size f cdv)) → sp vs H Q E →
      ∃ t, PSs (cxOf (L2.CX P w) P w K mg base N qual (defScope st) f cdv A out s H E) (defBody st) t ∧ t { nx := fun _ H' => Q .non H', rt := Q } (start N vs) H) : FnE P w K mg base (k + 1) f fd ps sp := by
  obtain ⟨c0, c1, c2, c3, c4, c5, cd, c6, c7, rfl, look, code⟩ := F.ex
  refine ⟨len, fun A out s H as us vs Q E hg room env bind vals want => ?_⟩
  have ln := len _ _ _ _ want
  have old : ∀ b o, base.get? b = some o → s.heap.get? b = some o := fun b o e => (env.bs b o e).1
  have here : K.In s.heap := env.mod.kin.keeps old
  refine codeAny_call_function room.depth (here _ _ look) rfl S.co S.gen rfl (PySem.W.codeRec_of here code) (bind _ _ _ _ ?_)
  refine wpAny_newFunctionEnv_cells S.kind (fun ⟨n, v⟩ m => (S.par n (List.of_mem_zip m).1).elim .inl fun c => .inr ⟨c, PySem.W.cellsFrom_some _ _ _ (.inl c)⟩) fun en he s1 x => ?_
  subst he
  refine ⟨(env.mod.nolimit.keeps old).keeps x.toInCall.keep, codeAny_func ?_⟩
  obtain ⟨t, rule, holds⟩ := hb cd A out s H vs Q E hg (room.deeper _) want
  have start0 := inv_start (CX := L2.CX P w) (E := E) S room.hd env ln vals x
  refine wpAny_mono (rule.run [] s1 (start N vs) H _ start0 holds) (fun r s' z => ?_) fun _ _ z => z
  match r, z with
  | .ret u, ⟨v, σ', H', J, rv, q⟩ => exact ⟨v, H', J.os, J.bare, J.base, J.hok, rv, q⟩
  | .next, ⟨σ', H', J, q⟩ => exact ⟨.non, H', J.os, J.bare, J.base, J.hok, rfl, q⟩
  | .brk, ⟨_, _, _, q⟩ => exact False.elim q
  | .cont, ⟨_, _, _, q⟩ => exact False.elim q
end
/-- where a def that may raise stands, under the name x, with its promise -/
structure CalE (P : Program) (w : World) (K : PySem.W.Frag) (mg : Str → Option Value) (base : Heap) (k : Nat) (x : Str) (ps : List Str) (f : Addr) (fd : FuncData) (sp : Sp) : Prop where
  ok : FnE P w K mg base k f fd ps sp
  kp : PySem.W.keepIn K (.ref f) = true
  b : Binds K fd ps []
  g : mg x = some (.ref f)
  lk : ∃ oc od osl, K.lookup f = some ⟨oc, od, .func fd, osl⟩
def HasE (P : Program) (w : World) (K : PySem.W.Frag) (mg : Str → Option Value) (base : Heap) (k : Nat) (x : Str) (ps : List Str) (sp : Sp) : Prop := ∃ f fd, CalE P w K mg base k x ps f fd sp
section
variable {P : Program} {w : World} {K : PySem.W.Frag} {mg : Str → Option Value} {base : Heap} {j k : Nat} {x : Str} {ps : List Str} {sp sp' : Sp}
theorem HasE.up (h : HasE P w K mg base j x ps sp) (l : j ≤ k) : HasE P w K mg base k x ps sp := by
  obtain ⟨f, fd, c⟩ := h
  exact ⟨f, fd, c.ok.up l, c.kp, c.b, c.g, c.lk⟩
theorem HasE.weak (h : HasE P w K mg base k x ps sp) (i : ∀ vs H Q E, sp' vs H Q E → sp vs H Q E) : HasE P w K mg base k x ps sp' := by
  obtain ⟨f, fd, c⟩ := h
  exact ⟨f, fd, c.ok.weak i, c.kp, c.b, c.g, c.lk⟩
theorem HasE.by {st : Stmt} {N : List Str} (F : At K mg x st ps) (S : FnScope N ps (defScope st)) (len : ∀ vs H Q E, sp vs H Q E → vs.length = ps.length)
    (hb : ∀ (f : Addr) (cdv : Value) (A : Around) (out : List Env) (s : Shared) (H : Hp) (vs : List V) (Q : VK) (E : XK), A.guards = some [] → Room k (A.deeper (envOfC x (defScope st) s.heap.objs.size f cdv)) → sp vs H Q E →
      ∃ t, PSs (cxOf (L2.CX P w) P w K mg base N x (defScope st) f cdv A out s H E) (defBody st) t ∧ t { nx := fun _ H' => Q .non H', rt := Q } (start N vs) H) : HasE P w K mg base (k + 1) x ps sp := by
  obtain ⟨f, fd, F, b, g⟩ := F
  exact ⟨f, fd, .body F S len (hb f), F.kp, b, g, fun_lk F⟩
/-- what raises nothing is a promise of both kinds -/
theorem HasE.calm (h : HasE P w K mg base k x ps sp) (i : ∀ vs H Q E, sp' vs H Q E → sp vs H Q E0) : Has P w K mg base k x ps sp' := by
  obtain ⟨f, fd, c⟩ := h
  refine ⟨f, fd, ⟨fun vs H Q E q => c.ok.len vs H Q E0 (i _ _ _ _ q), fun A out s H as us vs Q E g r e b v q => ?_⟩, c.kp, c.b, c.g, c.lk⟩
  refine codeAny_mono (c.ok.run A out s H as us vs Q E0 g r e b v (i _ _ _ _ q)) fun r s' z => ?_
  match r, z with
  | .error _, z =>
    obtain ⟨_, _, _, _, _, _, _, _, _, _, _, _, z⟩ := z
    exact z.elim
  | .ok (.ret _), z => exact z
  | .ok .next, z => exact z.elim
  | .ok .brk, z => exact z.elim
  | .ok .cont, z => exact z.elim
end
section
variable {X : Cx} {k : Nat} {x : Str} {ps ks : List Str} {f : Addr} {fd : FuncData} {sp : Sp} {p pos : Pos} {e : Expr} {es : List Expr} {t : TA} {E : L2.St → XK}
theorem calE_run {pins : List (Addr × Obj)} {σ : L2.St} {H : Hp} {s : Shared} {Q : VK} {us zs : List Value} {vs : List V} {kw : List (Str × Value)} (c : FnE X.prog X.w X.K X.mg X.base k f fd ps sp) (hg : X.A.guards = some []) (hr : Room k X.A) (hx : PassesAt (L2.CX X.prog X.w) X σ (E σ))
    (I : Inv X pins σ H s) (bind : BindsTo s fd ⟨us, kw⟩ (ps.zip zs)) (vals : Vals vs zs) (h : sp vs H Q (E σ)) : wpAny (model X.prog X.w) X.A (call (.ref f) us kw) (EP X pins σ Q) X.xe s := by
  refine wpAny_call (codeAny_mono (c.run X.A X.stack s H ⟨us, kw⟩ zs vs Q (E σ) hg hr I.env0 bind vals h) fun r s' z => ?_)
  match r, z with
  | .error e, z => exact hx pins H s e s' I z
  | .ok (.ret _), z => exact I.after z
  | .ok .next, z => exact z.elim
  | .ok .brk, z => exact z.elim
  | .ok .cont, z => exact z.elim
/-- f(e, ..), which may raise -/
theorem pe_calE (c : CalE X.prog X.w X.K X.mg X.base k x ps f fd sp) (hg : X.A.guards = some []) (hr : Room k X.A) (gl : Gl X x) (hx : ∀ σ, PassesAt (L2.CX X.prog X.w) X σ (E σ)) (ha : PA X (e :: es) t) (hdb : (x == ("__debug__" : Str)) = false := by decide)
    (he : starEach (e :: es) X.env = (false, eval e X.env) :: starEach es X.env := by rfl) (hpl : (backTo pos (starEach es X.env)).any (·.1) = false := by rfl) :
    PE X (.Call (.Name x p) (e :: es) [] pos) (tCallS sp E t) := by
  refine ⟨fun pins s σ H Q I h => wpAny_Call_Name_kw (ld_glob I gl c.g ?_ hdb)⟩
  refine PySem.W.callWith_K (h₀ := X.base) I.ok.mod.kin c.kp (thn (ha.run pos pins s σ H _ I h) fun us s1 ⟨vs, H1, I1, r, q⟩ => ⟨I1.kIn, ?_⟩) he hpl
  have ln : (us ++ []).length = ps.length := by
    rw [List.append_nil, ← r.length]
    exact c.ok.len _ _ _ _ q
  have bd := c.b s1 us I1.kIn ln
  rw [List.append_nil] at bd
  exact calE_run c.ok hg hr (hx σ) I1 bd r q
end
/-! ### an error made, raised -/
section
variable {X : Cx} {C fI : Addr} {x f : Str}
/-- x(e), then raised -/
def tMkErr (f : Str) (C : Addr) (ta : TA) : L2.St → Hp → XK → Prop := fun σ H Q => ta σ H fun vs H1 => ∃ v, vs = [v] ∧ ∀ d, H1 d = none → Q (.ref C) (some d) (upd H1 d (.xd [(f, v)]))
theorem pmk_err {a : Expr} {ta : TA} {p pos : Pos} {k : Nat} (T : ErrTxt X.prog X.K X.mg x f C fI) (hr : Room k X.A) (ha : PA X [a] ta) (hg : Gl X x) (hdb : (x == ("__debug__" : Str)) = false := by decide)
    (he : starEach (a :: []) X.env = (false, eval a X.env) :: starEach [] X.env := by rfl) (hpl : (backTo pos (starEach [] X.env)).any (·.1) = false := by rfl) :
    PMk X (.Call (.Name x p) [a] [] pos) (tMkErr f C ta) := by
  intro pins s σ H Q I h
  refine wpAny_Call_Name_kw (ld_glob I hg T.gC ?_ hdb)
  refine PySem.W.callWith_K (h₀ := X.base) I.ok.mod.kin T.kC (thn (ha.run pos pins s σ H _ I h) fun us s1 hh => ?_) he hpl
  obtain ⟨vs, H1, I1, r1, v, ev, q1⟩ := hh
  subst ev
  refine ⟨I1.kIn, ?_⟩
  cases r1 with
  | cons rv rn =>
    rename_i v' us'
    cases rn
    show wpAny _ _ (call (.ref C) [v']) _ _ _
    have hlim := I1.nolimit
    obtain ⟨mb, hb1, hb2⟩ := I1.mod.blt
    have hG := I1.mod.glob.keeps I1.bk
    have hB := hb1.keeps I1.bk
    obtain ⟨hp, g, dr, tk, os⟩ := s1
    refine wpAny_call (err_made T I1.kIn hlim hG hB hb2 (by have := hr.dp; omega) fun h' tk' e d M => ?_)
    show MkP X pins σ Q (.ref e) ⟨h', g, dr, tk', os⟩
    obtain ⟨oe, fv, hoe, hc, hd, hdat, h1⟩ := M.obj
    have hns := M.ns
    obtain ⟨G', g1, g2⟩ := restrict h' fun b => decide (b ≠ e)
    have gk : ∀ b, b ≠ e → G'.get? b = h'.get? b := fun b hb => g1 b (decide_eq_true hb)
    have ge : G'.get? e = none := g2 e (by simp)
    have old : ∀ b o, hp.get? b = some o → G'.get? b = some o := fun b o q => (gk b (Nat.ne_of_lt (Nat.lt_of_lt_of_le (Heap.lt_size q) M.new))).trans (M.keep b o q)
    have ob : ObjOk X.prog X.w (upd H1 d (.xd [(f, v)])) G' d (.xd [(f, v)]) :=
      ⟨_, hns.at (fun o q => (gk d M.dne).trans q), fun f => relO_put (fs := []) (mA := fun _ => none) rv (fun _ => True.intro) f⟩
    have J : Inv X pins σ (upd H1 d (.xd [(f, v)])) ⟨G', g, dr, tk', os⟩ := I1.laid (t' := tk') old M.dbig ob
    refine ⟨e, oe, fv, ⟨G', g, dr, tk', os⟩, _, .ref C, some d, rfl, J, fun b o q => ?_, ge, hoe, ⟨hc, hd⟩, hdat, h1, ?_, rfl, I1.bare, raises_own T.exC T.tyC, q1 d (I1.hok.fresh M.dbig)⟩
    · by_cases hb : b = e
      · have q' : G'.get? b = some o := q
        rw [hb, ge] at q'; cases q'
      · exact (gk b hb).symm.trans q
    · rw [upd_ne (Ne.symm M.dne)]
      exact I1.hok.fresh M.new
/-- raise x(e) -/
def tRaiseErr (f : Str) (C : Addr) (W : WX) (ta : TA) : TS := fun _ σ H => tMkErr f C ta σ H fun cls d H' => W cls d σ H'
theorem ps_raiseErr {a : Expr} {ta : TA} {W : WX} {p pos pos2 : Pos} {k : Nat} (hc : X.calm = true) (T : ErrTxt X.prog X.K X.mg x f C fI) (hr : Room k X.A) (tk : Takes X W) (ha : PA X [a] ta) (hg : Gl X x) (hdb : (x == ("__debug__" : Str)) = false := by decide)
    (he : starEach (a :: []) X.env = (false, eval a X.env) :: starEach [] X.env := by rfl) (hpl : (backTo pos (starEach [] X.env)).any (·.1) = false := by rfl) :
    PS X (.Raise (some (.Call (.Name x p) [a] [] pos)) none pos2) (tRaiseErr f C W ta) := ps_raise hc tk (pmk_err T hr ha hg hdb he hpl)
end
/-! ### an error as a value -/
/-- at a: an error of the class cls, its dict d -/
def exv (a : Addr) (cls : Value) (d : Option Addr) : HO := .ext fun h => ∃ (oe : Obj) (vs : Array Value), h.get? a = some oe ∧ Zc cls d oe ∧ oe.data = .fields vs
theorem exv_ok {P : Program} {w : World} {H : Hp} {h : Heap} {a : Addr} {cls : Value} {d : Option Addr} {oe : Obj} {vs : Array Value} (e : h.get? a = some oe) (z : Zc cls d oe) (hd : oe.data = .fields vs) : ObjOk P w H h a (exv a cls d) :=
  ⟨⟨oe, vs, e, z, hd⟩, ⟨oe, e⟩, fun _ _ ⟨o, v, q, r⟩ k => ⟨o, v, k o q, r⟩⟩
theorem exv_at {P : Program} {w : World} {H : Hp} {h : Heap} {a : Addr} {cls : Value} {d : Option Addr} (hok : HOk P w H h) (he : H a = some (exv a cls d)) : ∃ (oe : Obj) (vs : Array Value), h.get? a = some oe ∧ Zc cls d oe ∧ oe.data = .fields vs := by
  have x : ObjOk P w H h a (.ext fun h => ∃ (oe : Obj) (vs : Array Value), h.get? a = some oe ∧ Zc cls d oe ∧ oe.data = .fields vs) := hok a _ he
  exact x.1
section
variable {X : Cx} {pins : List (Addr × Obj)} {σ : L2.St} {H : Hp} {s : Shared}
/-- an object that was not there at the entry, tracked from now on -/
theorem track {a : Addr} {o : HO} (I : Inv X pins σ H s) (n0 : X.s_0.heap.get? a = none) (hn : H a = none) (nL : a ≠ X.env.locals) (nC : ∀ x c, X.env.cells.lookup x = some c → c ≠ a) (np : ∀ p ∈ X.pn ++ pins, p.1 ≠ a)
    (new : ObjOk X.prog X.w (upd H a o) s.heap a o) : Inv X pins σ (upd H a o) s := by
  refine ⟨I.ok, I.os, I.bare, ⟨I.base.keep, I.base.slot, fun b u q n hx => ?_, I.base.there, fun b xs q => ?_, fun b u v q => ?_, fun b ps q => ?_⟩, I.loc, I.cell, ?_, fun x c e => ?_, fun p hp => ?_, fun b u e => ?_, I.len⟩
  · rw [upd_ne (fun z => by rw [z, n0] at q; cases q)]
    exact I.base.free b u q n hx
  · have q' := I.base.tups b xs q
    rw [upd_ne (ne_of_none q' hn)]
    exact q'
  · have q' := I.base.frzs b u v q
    rw [upd_ne (ne_of_none q' hn)]
    exact q'
  · obtain ⟨m, q'⟩ := I.base.tbls b ps q
    exact ⟨m, by rw [upd_ne (ne_of_none q' hn)]; exact q'⟩
  · rw [upd_ne (Ne.symm nL)]
    exact I.free
  · rw [upd_ne (nC x c e)]
    exact I.freeC x c e
  · obtain ⟨e, n, ne, nf, d⟩ := I.pin p hp
    exact ⟨e, by rw [upd_ne (np p hp)]; exact n, ne, nf, d⟩
  · by_cases hb : b = a
    · subst hb
      rw [upd_same] at e
      cases e
      exact new
    · rw [upd_ne hb] at e
      exact (I.hok b u e).stay (fun _ _ _ q => q) (fun c q => by rw [upd_ne (ne_of_none q hn)]; exact q) fun c xs q => by rw [upd_ne (ne_of_none q hn)]; exact q
end
/-! ### try: body, except x as n: suite; the error is kept as a value -/
/-- what the clause wishes of an error of the body: slot i is n's -/
def wKeep (K : PySem.W.Frag) (c : Value) (i : Nat) (ts : TS) (Wout : WX) (D : Ends) : WX := fun cls d σ H =>
  ∃ b, PySem.W.exmOne K cls c = some b ∧ (b = true → ∀ a, H a = none → ts { nx := fun σ' H' => D.nx (σ'.set i none) H', rt := D.rt, bk := fun σ' H' => D.bk (σ'.set i none) H', ct := fun σ' H' => D.ct (σ'.set i none) H' } (σ.set i (some (.ref a))) (upd H a (exv a cls d))) ∧
    (b = false → Wout cls d σ H)
section
variable {X : Cx} {x n : Str} {c : Value} {i : Nat} {body suite : List Stmt} {b₀ : Stmt} {np pos pos' : Pos} {tb : WX → TS} {ts : TS} {Wout : WX}
theorem suiteK {pins : List (Addr × Obj)} {σ : L2.St} {H : Hp} {s : Shared} (I : Inv X pins σ H s) (a : Addr) : Inv (X.suite a (X.pn ++ pins)) [] σ H s :=
  ⟨I.ok.suite _ _, I.os, I.bare, I.base, I.loc, I.cell, I.free, I.freeC, fun p hp => I.pin p (by rw [List.append_nil] at hp; exact hp), I.hok, I.len⟩
theorem unsuiteK {pins pn' : List (Addr × Obj)} {σ : L2.St} {H : Hp} {s : Shared} {a : Addr} (I : Inv (X.suite a (X.pn ++ pins)) pn' σ H s) (ok : X.Ok) : Inv X pins σ H s :=
  ⟨ok, I.os, I.bare, I.base, I.loc, I.cell, I.free, I.freeC, fun p hp => I.pin p (List.mem_append_left _ hp), I.hok, I.len⟩
theorem ps_try_keep (hs : X.stack = X.env :: X.outer) (hf : X.env.frame = some X.env.locals) (hex : X.ex = []) (hN : X.N.Nodup) (hi : X.N[i]? = some n) (hln : X.env.kindOf n = some .local) (hc : Names X x c) (tk : Takes X Wout)
    (hb : ∀ (W : WX) (pn : List (Addr × Obj)) (xe : Value → Shared → Prop), Takes (X.tr pn xe) W → PassesOwn (model X.prog X.w) X.A X.env xe → PSs (X.tr pn xe) body (tb W))
    (hsu : ∀ (a : Addr) (pn : List (Addr × Obj)), PSs (X.suite a pn) (b₀ :: suite) ts) :
    PS X (.Try body [.ExceptHandler (some (.Name x np)) (some n) (b₀ :: suite) pos'] [] [] pos) (fun D σ H => tb (wKeep X.K c i ts Wout D) D σ H) := by
  refine ⟨fun pins s σ H D I h => ?_⟩
  have ok := I.ok
  have frm : X.A.frames = some (X.env :: X.outer) := by rw [ok.frames, hs]
  refine wpAny_Try_except ?_
  refine wpAny_mono ((hb (wKeep X.K c i ts Wout D) (X.pn ++ pins) (fun er s₁ => wpAny (model X.prog X.w) X.A (noteFrame er X.env) (fun _ s₂ => wpAny (model X.prog X.w) X.A (setFlight er none) (fun _ s₃ =>
    wpAny (model X.prog X.w) X.A (handleBy er X.env [.ExceptHandler (some (.Name x np)) (some n) (b₀ :: suite) pos']) (SP X pins D) X.xe s₃) X.xe s₂) X.xe s₁) (fun u s' air => ?_) PassesOwn.looking).run [] s σ H D (I.toTry _) h) (fun fl s1 sp => ?_) (fun er s1 he => he)
  · obtain ⟨a, B, sI, pins', σ', H', cls, d, rfl, J', gr, up, sky, na, os, ag, b, hb1, yes, no⟩ := air
    have J : Inv X pins σ' H' sI := J'.ofTry ok
    have sky' : Sky B (X.env :: X.outer) a (Zc cls d) X.env.locals s'.heap := by rw [← hs]; exact sky
    show wpAny (model X.prog X.w) X.A (noteFrame (.ref a) X.env) _ _ _
    refine Sky.land Zc.steady frm hf sky' fun h3 f3 u3 => ?_
    have J3 : Inv X pins σ' H' { s' with heap := h3 } := J.landed gr f3.1 (up.trans u3) os ag
    obtain ⟨o3, v3, he3, hz3, hd3⟩ := f3.there
    have nfr : a ∉ frs (X.env :: X.outer) := fun hm => by
      obtain ⟨_, o', e', hnf⟩ := f3.2.2.1.mem hm
      rw [he3] at e'
      cases e'
      exact hnf _ hd3
    have nL : a ≠ X.env.locals := fun z => nfr (List.mem_filterMap.mpr ⟨X.env, List.mem_cons_self, by rw [hf, z]⟩)
    have nF : a ∉ X.fs := fun hm => by
      obtain ⟨e, he, q⟩ := List.mem_filterMap.mp hm
      exact nfr (List.mem_filterMap.mpr ⟨e, List.mem_cons_of_mem _ he, q⟩)
    have nG : B.get? a = none := f3.2.1
    have nI : sI.heap.get? a = none := by
      cases e : sI.heap.get? a with
      | none => rfl
      | some o =>
        have z := gr a o e (by rw [hs]; exact nfr)
        rw [nG] at z
        cases z
    have n0 : X.s_0.heap.get? a = none := by
      cases e : X.s_0.heap.get? a with
      | none => rfl
      | some o =>
        obtain ⟨o', z⟩ := J.base.there a o e (by rw [hex]; exact fun z => nomatch z)
        rw [nI] at z
        cases z
    have nP : ∀ p ∈ X.pn ++ pins, p.1 ≠ a := fun p hp z => by
      have q := (J.pin p hp).1
      rw [z, nI] at q
      cases q
    have S3 := J3.suite he3 hd3 na nL nF
    refine wpAny_handleBy_cons (codeAny_handlers_test ?_) (by intro q; cases q)
    have lt : PySem.W.Looks (model X.prog X.w) h3 (typeOf (.ref a)) cls := fun A Q E s k q => wpAny_typeOf_ref (k _ _ he3) (by rw [hz3.1]; exact q)
    have lm := PySem.W.exm_one (M := model X.prog X.w) (J3.kIn) lt hb1
    have test : ∀ {Q : Value → Shared → Prop} {E : Value → Shared → Prop}, Q c { s' with heap := h3 } → wpAny (model X.prog X.w) (X.A.mark (some (.ref a))) (eval (.Name x np) X.env) Q E { s' with heap := h3 } := fun {Q E} q => by
      obtain ⟨g1, g2, g3 | ⟨g3, g4, g5⟩⟩ := hc
      · exact ld_glob (X := X.suite a ((a, o3) :: (X.pn ++ pins))) S3 g1 g3 q g2
      · exact ld_blt (X := X.suite a ((a, o3) :: (X.pn ++ pins))) S3 g1 g3 g4 q g5 g2
    refine test (lm.here ?_)
    cases b with
    | true =>
      refine codeAny_handlers_suite_as ?_
      refine HandSPX.lands_againZ f3 fun h4 f4 u4 => ?_
      have J4 : Inv X pins σ' H' { s' with heap := h4 } := J.landed gr f4.1 ((up.trans u3).trans u4) os ag
      obtain ⟨o4, v4, he4, hz4, hd4⟩ := f4.there
      have nC : ∀ x c, X.env.cells.lookup x = some c → c ≠ a := fun y c e z => by
        obtain ⟨v, o, q, hq⟩ := J4.cell y c e
        rw [z] at q
        have q' : h4.get? a = some o := q
        rw [he4] at q'
        cases q'
        rw [hd4] at hq
        cases hq
      have T4 : Inv X pins σ' (upd H' a (exv a cls d)) { s' with heap := h4 } := track J4 n0 na nL nC nP (exv_ok he4 hz4 hd4)
      have S4 := suiteK T4 a
      refine store_ok (X := X.suite a (X.pn ++ pins)) (v := .ref a) S4 hN hi (.inl hln) rfl (fun s5 S5 => ?_) (.inr hln)
      refine wpAny_mono ((hsu a (X.pn ++ pins)).run [] s5 _ (upd H' a (exv a cls d)) _ S5 (yes rfl a na)) (fun fl s6 sp => ?_) (fun _ _ z => False.elim z)
      have fin : ∀ {σ6 : L2.St} {H6 : Hp} {Q : Shared → Prop}, Inv (X.suite a (X.pn ++ pins)) [] σ6 H6 s6 → (∀ s7, Inv X pins (σ6.set i none) H6 s7 → Q s7) →
          wpAny (model X.prog X.w) X.A (do bindName X.env n .none; unbindBehindTheSuite X.env n pos') (fun _ s7 => Q s7) X.xe s6 := fun {σ6 H6 Q} S6 hq => gone_ok (unsuiteK S6 ok) hN hi hln hq
      cases fl with
      | next =>
        obtain ⟨σ6, H6, S6, q6⟩ := sp
        exact fin S6 fun s7 J7 => ⟨_, _, J7, q6⟩
      | brk =>
        obtain ⟨σ6, H6, S6, q6⟩ := sp
        exact fin S6 fun s7 J7 => ⟨_, _, J7, q6⟩
      | cont =>
        obtain ⟨σ6, H6, S6, q6⟩ := sp
        exact fin S6 fun s7 J7 => ⟨_, _, J7, q6⟩
      | ret u =>
        obtain ⟨v6, σ6, H6, S6, r6, q6⟩ := sp
        exact fin S6 fun s7 J7 => ⟨_, _, _, J7, r6, q6⟩
    | false =>
      show wpAny _ X.A (handleBy (.ref a) X.env []) _ _ _
      refine wpAny_handleBy_nil ?_
      obtain ⟨k1, k2, k3, oe, vs, T, oT, ts', he, hz, hd, h1, hr⟩ := id f3
      unfold PySem.passOn
      refine wpAny_bind (wpAny_field he hd h1 ?_)
      rw [if_neg (show ¬ ((Value.ref T == Value.none) = true) from by simp)]
      have fin : wpAny (model X.prog X.w) X.A (setFlight (.ref a) X.env.frame) (fun _ s4 => wpAny (model X.prog X.w) X.A (throw (.ref a) : Sem Flow) (SP X pins D) X.xe s4) X.xe { s' with heap := h3 } := by
        rw [hf]
        refine HandSPX.setFlight_upZ f3 fun h4 hh4 u4 => wpAny_throw (tk _ _ ?_)
        exact ⟨a, B, sI, pins, σ', H', cls, d, rfl, J, gr, (up.trans u3).trans u4, .inr (.inr (by rw [hs]; exact hh4)), na, os, ag, no rfl⟩
      first
        | exact wpAny_bind (wpAny_pure (wpAny_bind fin))
        | exact wpAny_bind fin
  · cases fl with
    | next =>
      obtain ⟨σ', H', J', q⟩ := sp
      exact wpAny_execs_nil ⟨σ', H', J'.ofTry ok, q⟩
    | brk =>
      obtain ⟨σ', H', J', q⟩ := sp
      exact ⟨σ', H', J'.ofTry ok, q⟩
    | cont =>
      obtain ⟨σ', H', J', q⟩ := sp
      exact ⟨σ', H', J'.ofTry ok, q⟩
    | ret u =>
      obtain ⟨v, σ', H', J', r, q⟩ := sp
      exact ⟨v, σ', H', J'.ofTry ok, r, q⟩
end
/-! ### asked -/
/-- what the class D says, so that isinstance asks its instances rightly, and their attributes are read -/
theorem exv_inst {P : Program} {w : World} {H : Hp} {h : Heap} {a D : Addr} {d : Option Addr} (hok : HOk P w H h) (he : H a = some (exv a (.ref D) d)) (hd : ∀ dd, d = some dd → ∃ fs, H dd = some (.xd fs)) : ∃ oe od, PySem.W.InstAt h a oe D od := by
  obtain ⟨oe, vs, e, ⟨z1, z2⟩, dt⟩ := exv_at hok he
  cases d with
  | none => exact ⟨oe, none, e, z1, by unfold PySem.W.notCls; rw [dt] <;> rfl, by rw [z2]; trivial⟩
  | some dd =>
    obtain ⟨fs, q⟩ := hd dd rfl
    have hx : ObjOk P w H h dd (.xd fs) := hok dd _ q
    obtain ⟨mA, ⟨o, es, ep, ho, _⟩, _⟩ := hx
    exact ⟨oe, some o, e, z1, by unfold PySem.W.notCls; rw [dt] <;> rfl, by rw [z2]; exact ho⟩
/-- isinstance(e, c), e an error of the class D -/
def rIsX (K : PySem.W.Frag) : List V → Hp → VK → Prop := fun xs H Q => ∃ (a D : Addr) (d : Option Addr) (c : V) (cv : Value) (b : Bool), xs = [.ref a, c] ∧ H a = some (exv a (.ref D) d) ∧ (∀ dd, d = some dd → ∃ fs, H dd = some (.xd fs)) ∧ ExcC K D ∧ ClsV c cv ∧ PySem.W.kitOne K (.ref D) cv = some b ∧ Q (.bl b) H
theorem kit_exc {K : PySem.W.Frag} {D x : Addr} {ox : Obj} {od : Option Obj} (C : ExcC K D) : PySem.W.KitX K (.ref x) (.ref D) (fun h => PySem.W.InstAt h x ox D od) := by
  refine PySem.W.kitx_exc ?_ C.hg C.hk C.hs C.ha C.hn C.ht C.hm
  obtain ⟨cd, hc, _⟩ := PySem.W.any_some C.hd
  rw [hc] <;> rfl
theorem call_isX {X : Cx} {K : PySem.W.Frag} (hK : X.K = K) : CallR X (.builtin "isinstance") (rIsX K) := by
  subst hK
  intro pins s σ H xs us Q I r h
  obtain ⟨a, D, d, c, cv, b, rfl, he, hd, C, k, e, q⟩ := h
  obtain ⟨u1, u2, rfl, r1, r2⟩ := vals2 r
  have e2 := k.eq r2
  subst e2
  cases (show u1 = Value.ref a from r1)
  obtain ⟨oe, od, J⟩ := exv_inst I.hok he hd
  exact PySem.W.kia_one (kit_exc C) I.kIn J e (fun z => nomatch z) fun tk => ⟨.bl b, H, I.tok tk, rfl, q⟩
/-- isinstance(e, (c, ..)) -/
def rIsXT (K : PySem.W.Frag) : List V → Hp → VK → Prop := fun xs H Q => ∃ (a D : Addr) (d : Option Addr) (tp : Addr) (cs : List V) (ws : List Value) (b : Bool), xs = [.ref a, .ref tp] ∧ H a = some (exv a (.ref D) d) ∧ (∀ dd, d = some dd → ∃ fs, H dd = some (.xd fs)) ∧ ExcC K D ∧ H tp = some (.tup cs) ∧ Paired ClsV cs ws ∧ PySem.W.kitAny K (.ref D) ws = some b ∧ Q (.bl b) H
theorem call_isXT {X : Cx} {K : PySem.W.Frag} (hK : X.K = K) : CallR X (.builtin "isinstance") (rIsXT K) := by
  subst hK
  intro pins s σ H xs us Q I r h
  obtain ⟨a, D, d, tp, cs, ws, b, rfl, he, hd, C, hT, k, e, q⟩ := h
  obtain ⟨u1, u2, rfl, r1, r2⟩ := vals2 r
  cases (show u1 = Value.ref a from r1)
  cases (show u2 = Value.ref tp from r2)
  obtain ⟨oe, od, J⟩ := exv_inst I.hok he hd
  obtain ⟨_, its, rv, o, h1, h2, n, h3⟩ := (show ObjOk X.prog X.w H s.heap tp (.tup cs) from I.hok tp _ hT)
  have e3 := ClsV.all k rv
  subst e3
  obtain ⟨oc, od', odt, osl⟩ := o
  dsimp only at h2 h3
  subst h2 h3
  exact PySem.W.kia_tup (kit_exc C) I.kIn J h1 e (fun z => nomatch z) fun tk => ⟨.bl b, H, I.tok tk, rfl, q⟩
/-- e.n, e an error of the class C -/
def tExvF (n : Str) (te : TE) (K : PySem.W.Frag) : TE := fun σ H Q => te σ H fun x H1 => ∃ (a C dd : Addr) (fs : List (Str × V)) (v : V), x = .ref a ∧ XfC K C ∧ PySem.W.findIn K (.ref C) n = some none ∧ H1 a = some (exv a (.ref C) (some dd)) ∧ H1 dd = some (.xd fs) ∧ fs.lookup n = some v ∧ Q v H1
theorem pe_exvF {X : Cx} {e : Expr} {te : TE} {pos : Pos} {n : Str} (he : PE X e te) (hb : attributeBase e n X.env (eval e X.env) = eval e X.env := by rfl) : PE X (.Attribute e n pos) (tExvF n te X.K) := by
  refine ⟨fun pins s σ H Q I h => ?_⟩
  refine attr_of hb (thn (he.run pins s σ H _ I h) fun u s1 hh => ?_)
  obtain ⟨x, H1, I1, rx, a, C, dd, fs, v, ex, T, hno, ea, ed, l, q⟩ := hh
  subst ex
  obtain rfl : u = Value.ref a := rx
  obtain ⟨oe, vs, ho, hz, hdt⟩ := exv_at I1.hok ea
  have hx : ObjOk X.prog X.w H1 s1.heap dd (.xd fs) := I1.hok dd _ ed
  obtain ⟨mA, hns, hr⟩ := hx
  obtain ⟨od, hod, hl⟩ := lookIn_ns hns
  obtain ⟨u, hu, ru⟩ := RelO.some_of (v := v) (o := mA n) (by rw [← l]; exact hr n)
  have J : PySem.W.InstAt s1.heap a oe C (some od) := ⟨ho, hz.1, by unfold PySem.W.notCls; rw [hdt] <;> rfl, by rw [hz.2]; exact hod⟩
  exact HandSPX.exc_get I1.kIn J T.ga T.gg T.exC (PySem.W.findObj_own T.hdC hno rfl (by rw [hl, hu])) (handed_of ru) ⟨v, H1, I1.tok _, ru, q⟩
end Lj
set_option Elab.async false
set_option linter.all false
set_option maxRecDepth 100000
set_option pp.maxSteps 500
set_option pp.deepTerms.threshold 8
set_option pp.deepTerms false
namespace K07
open PySem PySem.Spec PyProof.Rows L2 Lj
def topS (i : Nat) : Stmt := PySem.Challenge.pw_leastjournal_k07_steps_located.main.body.getD i (.Pass ⟨0, 0, 0, 0⟩)
abbrev sIs_between : Stmt := topS 9
theorem scIs_between : FnScope ["value", "low", "high"] ["value", "low", "high"] (defScope sIs_between) := ⟨rfl, rfl, rfl, by decide +kernel, rfl, by decide +kernel, by decide +kernel⟩
abbrev sStep_count : Stmt := topS 11
theorem scStep_count : FnScope ["program", "instruction"] ["program"] (defScope sStep_count) := ⟨rfl, rfl, rfl, by decide +kernel, rfl, by decide +kernel, by decide +kernel⟩
abbrev sLength : Stmt := topS 12
theorem scLength : FnScope ["instruction"] ["instruction"] (defScope sLength) := ⟨rfl, rfl, rfl, by decide +kernel, rfl, by decide +kernel, by decide +kernel⟩
abbrev sLocate : Stmt := topS 13
theorem scLocate : FnScope ["program", "step", "index", "rest", "path", "instruction", "body", "turn"] ["program", "step"] (defScope sLocate) := ⟨rfl, rfl, rfl, by decide +kernel, rfl, by decide +kernel, by decide +kernel⟩
abbrev sPlace : Stmt := topS 14
theorem scPlace : FnScope ["program", "step", "index", "rest"] ["program", "step"] (defScope sPlace) := ⟨rfl, rfl, rfl, by decide +kernel, rfl, by decide +kernel, by decide +kernel⟩
abbrev sUrn : Stmt := topS 16
theorem scUrn : FnScope ["_law_script", "_law_k", "_law_cell", "_law_own"] ["_law_script", "_law_k"] (defScope sUrn) := ⟨rfl, rfl, rfl, by decide +kernel, rfl, by decide +kernel, by decide +kernel⟩
abbrev sTake : Stmt := topS 17
theorem scTake : FnScope ["_law_urn_here", "_law_below", "_law_digit", "_law_mixed"] ["_law_urn_here", "_law_below"] (defScope sTake) := ⟨rfl, rfl, rfl, by decide +kernel, rfl, by decide +kernel, by decide +kernel⟩
abbrev sOf : Stmt := topS 18
theorem scOf : FnScope ["_law_urn_here", "_law_items"] ["_law_urn_here", "_law_items"] (defScope sOf) := ⟨rfl, rfl, rfl, by decide +kernel, rfl, by decide +kernel, by decide +kernel⟩
abbrev sPrime : Stmt := topS 19
theorem scPrime : FnScope ["_law_urn_here"] ["_law_urn_here"] (defScope sPrime) := ⟨rfl, rfl, rfl, by decide +kernel, rfl, by decide +kernel, by decide +kernel⟩
abbrev sItem : Stmt := topS 20
theorem scItem : FnScope ["_law_urn_here", "_law_p", "_law_n", "_law_words_here", "_law_word", "_law_x", "_law_c", "_law_y"] ["_law_urn_here", "_law_p", "_law_n", "_law_words_here"] (defScope sItem) := ⟨rfl, rfl, rfl, by decide +kernel, rfl, by decide +kernel, by decide +kernel⟩
abbrev sBody : Stmt := topS 21
theorem scBody : FnScope ["_law_urn_here", "_law_p", "_law_n", "_law_words_here", "_law_length", "_law_deep", "_law_rounds", "_law_found", "_law_turn", "_law_inner"] ["_law_urn_here", "_law_p", "_law_n", "_law_words_here", "_law_length", "_law_deep", "_law_rounds"] (defScope sBody) := ⟨rfl, rfl, rfl, by decide +kernel, rfl, by decide +kernel, by decide +kernel⟩
abbrev sWords : Stmt := topS 22
theorem scWords : FnScope [] [] (defScope sWords) := ⟨rfl, rfl, rfl, by decide +kernel, rfl, by decide +kernel, by decide +kernel⟩
abbrev sSteps : Stmt := topS 23
theorem scSteps : FnScope ["_law_tree", "_law_item_here"] ["_law_tree"] (defScope sSteps) := ⟨rfl, rfl, rfl, by decide +kernel, rfl, by decide +kernel, by decide +kernel⟩
abbrev sPaths : Stmt := topS 24
theorem scPaths : FnScope ["_law_tree", "_law_found", "_law_index", "_law_item_here", "_law_inner", "_law_turn", "_law_path", "_law_one"] ["_law_tree"] (defScope sPaths) := ⟨rfl, rfl, rfl, by decide +kernel, rfl, by decide +kernel, by decide +kernel⟩
abbrev sRefused : Stmt := topS 25
theorem scRefused : FnScope ["_law_tree", "_law_value", "_law_caught", "e", "_law_others"] ["_law_tree", "_law_value"] (defScope sRefused) := ⟨rfl, rfl, rfl, by decide +kernel, rfl, by decide +kernel, by decide +kernel⟩
abbrev sRight : Stmt := topS 26
theorem scRight : FnScope ["_law_urn_here", "_law_tree", "_law_due", "_law_spot", "_law_odd", "_law_value"] ["_law_urn_here", "_law_tree"] (defScope sRight) := ⟨rfl, rfl, rfl, by decide +kernel, rfl, by decide +kernel, by decide +kernel⟩
abbrev sLaw : Stmt := topS 27
theorem scLaw : FnScope ["_law_script", "_law_k", "_law_urn_here", "_law_p", "_law_n", "_law_turn", "_law_tree"] ["_law_script"] (defScope sLaw) := ⟨rfl, rfl, rfl, by decide +kernel, rfl, by decide +kernel, by decide +kernel⟩
abbrev sEM : Stmt := inClass (topS 3) 0
section
variable {P : Program} {w : World} {K : PySem.W.Frag} {mg : Str → Option Value} {base : Heap}
theorem take_all {α : Type} (b : List α) : b.take b.length = b := List.take_length
/-! ### step_count and length -/
theorem ok_length (M : Bl mg) (F : At K mg "length" sLength ["instruction"]) {n k : Nat} (h : Has P w K mg base k "step_count" ["program"] (spTI K (okB n) lens)) :
    Has P w K mg base (k + 1) "length" ["instruction"] (spII K (fun t => okB (n + 1) [t]) Tr.len) := by
  obtain ⟨fS, fdS, cStep_count⟩ := h
  refine Has.by F scLength (fun vs H Q E h => ?_) (fun f cdv A out s H vs Q E hg hr h => ?_)
  · obtain ⟨v, t, rfl, _⟩ := h
    rfl
  obtain ⟨v, t, rfl, hT, ok, q⟩ := h
  refine ⟨_, (pss_cons (ps_if (pt_cmpR op_eq (pe_ix ix_tup (pv 0) pe_int (fun _ _ => rfl)) pe_str (nomark _))
    (pss_one (ps_ret (pe_op op_mul (pe_ix ix_tup (pv 0) pe_int (fun _ _ => rfl)) (pe_cal cStep_count hg hr (by rfl) (pa_cons (pe_ix ix_tup (pv 0) pe_int (fun _ _ => rfl)) pa_nil)))))
    pss_nil)
  (pss_one (ps_ret pe_int))), ?_⟩
  cases t with
  | op u as =>
    rw [TrAt] at hT
    obtain ⟨a, rfl, sq⟩ := hT
    refine ⟨_, rfl, a, _, 0, .str u, rfl, rfl, sq, at0, rfl, _, rfl, iteN (fun e => okB_op (i := 0) ok rfl (V.str.inj e)) ?_⟩
    exact q H (Same.refl H)
  | loop c b =>
    rw [TrAt] at hT
    obtain ⟨a, d, us, rfl, sq, sq2, r⟩ := hT
    obtain ⟨c0, c1, ok2⟩ := okB_loop (i := 0) ok rfl
    refine ⟨_, rfl, a, _, 0, .str "loop", rfl, rfl, sq, rfl, rfl, _, rfl, iteP rfl ?_⟩
    refine ⟨_, rfl, a, _, 1, .int c, rfl, rfl, sq, rfl, _, rfl, a, _, 2, .ref d, rfl, rfl, sq, rfl, _, b, rfl, ⟨d, us, rfl, sq2, r⟩, ok2, fun H' sm => ?_⟩
    exact ⟨c, _, rfl, rfl, .inl ⟨by omega, by omega⟩, q H' sm⟩
theorem ok_step (M : Bl mg) (F : At K mg "step_count" sStep_count ["program"]) {n k : Nat} (h : Has P w K mg base k "length" ["instruction"] (spII K (fun t => okB (n + 1) [t]) Tr.len)) :
    Has P w K mg base (k + 1) "step_count" ["program"] (spTI K (okB (n + 1)) lens) := by
  obtain ⟨fS, fdS, cLength⟩ := h
  refine Has.by F scStep_count (fun vs H Q E h => ?_) (fun f cdv A out s H vs Q E hg hr h => ?_)
  · obtain ⟨v, t, rfl, _⟩ := h
    rfl
  obtain ⟨v, b, rfl, ⟨c, us, rfl, sq, r⟩, ok, q⟩ := h
  refine ⟨_, (pss_one (ps_ret (pe_callB (cr_sum rfl) (by rfl) M.sum_ (by decide +kernel) (pa_cons (pe_lc (own := [("instruction", 1)]) (g := gName 1) (by rfl) scStep_count.nd (pi_tup (pv 0)) (blkOk_by (own := [("instruction", 1)]) (N := ["program", "instruction"]) (sc := defScope sStep_count) (by decide +kernel)) (fun _ _ _ _ _ => (pg_name (i := 1) scStep_count.nd rfl (.inl rfl))) (fun _ _ _ _ _ => pts_nil) (fun _ _ _ _ _ => (pe_cal cLength hg hr (by rfl) (pa_cons (pv 1) pa_nil)))) pa_nil)))), ?_⟩
  refine ⟨_, rfl, c, rfl, ⟨_, sq⟩, fun D nD => ?_⟩
  refine lc_tup (xs := us) (fun i H' => H' D = some (.lst (((b.take i).map Tr.len).map V.int)) ∧ Same H H') ⟨upd_same, same_new nD⟩ (fun i H' _ h => (Kt.same h.2).sq sq) ?_ ?_
  · rintro i x H' hx ⟨e1, e2⟩
    obtain ⟨t, ht, hT⟩ := r.get hx
    refine ⟨rfl, ?_⟩
    refine ⟨_, rfl, x, t, rfl, TrAt.kt (Kt.same e2) t x hT, ⟨by rw [wfs, wfs]; exact ⟨wfs_get ok.1 ht, trivial⟩, by show 1 ≤ 1000; decide⟩, fun H2 sm => ?_⟩
    refine ⟨_, sm _ _ e1, ?_, ?_, same_upd (e2.trans sm) nD⟩
    · rw [List.length_map, List.length_map, List.length_take]
      exact small1000 (Nat.le_trans (Nat.min_le_right _ _) ok.2)
    · rw [upd_same, map_next ht, List.map_append]
      rfl
  · rintro H' ⟨e1, e2⟩
    rw [r.length, take_all] at e1
    refine ⟨D, _, rfl, SqL.of e1, ?_⟩
    rw [← lens_map]
    exact q H' e2
theorem ok_steps (M : Bl mg) (FL : At K mg "length" sLength ["instruction"]) (FS : At K mg "step_count" sStep_count ["program"]) : ∀ n, Has P w K mg base (2 * n) "step_count" ["program"] (spTI K (okB n) lens)
  | 0 => Has.none FS fun vs H Q E ⟨_, _, _, _, h, _⟩ => h
  | n + 1 => ok_step M FS (ok_length M FL (ok_steps M FL FS n))
end
section
variable {P : Program} {w : World} {K : PySem.W.Frag} {mg : Str → Option Value} {base : Heap}
theorem ok_urn {f : Addr} {fd : FuncData} {k : Nat} (F : Fun K "_law_urn" "_law_urn" sUrn f fd) (ml : mg "len" = none) (ma : mg "abs" = none) (mi : mg "int" = none) :
    FnOk P w K mg base CX0 (k + 1) f fd ["_law_script", "_law_k"] (spUrn K) := by
  refine F.ok scUrn (fun vs H Q E h => ?_) (fun cdv A outer s H vs Q E hr h => ?_)
  · obtain ⟨a, ns, k, rfl, _⟩ := h
    rfl
  obtain ⟨a, ns, k, rfl, hS, h0, h1, q⟩ := h
  refine ⟨_, Evl.pss_cut (ps_set (i := 2) scUrn.nd rfl (.inl rfl) (pe_ifExp (pt_cmpR op_lt (pv 1) (pe_callB call_len_seq (by rfl) ml PySem.boot_len (pa_cons (pv 0) pa_nil)) (nomark _)) (pe_ix ix_list (pv 0) (pv 1) (fun _ _ => rfl)) (pe_op op_add (pe_op op_mul pe_int (pv 1)) pe_int)))
    (pss_cons (ps_set (i := 3) scUrn.nd rfl (.inl rfl) (pe_op op_mul (pe_op op_mod (pe_callB call_abs (by rfl) ma (by decide +kernel) (pa_cons (pv 2) pa_nil)) (pe_callTy call_int_str (by rfl) mi (by decide +kernel) (pa_cons (pe_op op_add_str pe_str (pe_op op_mulS pe_str pe_int)) pa_nil)))
       (pe_callTy call_int1 (by rfl) mi (by decide +kernel) (pa_cons (pe_cmpR op_ge (pe_callB call_abs (by rfl) ma (by decide +kernel) (pa_cons (pv 2) pa_nil)) (pe_op op_pow pe_int pe_int) (nomark _)) pa_nil))))
    (pss_one (ps_ret (pe_lst (pa_cons (pv 3) (pa_cons (pe_op op_mod (pe_op op_mul (pe_op op_add (pe_op op_add (pe_op op_mod (pv 2) pe_int) (pe_op op_mul (pe_op op_mul pe_int (pv 1)) (pv 1))) pe_int) pe_int) pe_int) pa_nil)))))), ?_⟩
  refine ⟨fun σ H' => ∃ c : Int, σ = [some (.ref a), some (.int k), some (.int c), none] ∧ H' = H, ?_, ?_⟩
  · refine ⟨_, rfl, _, rfl, a, _, rfl, .inl hS, _, _, rfl, rfl, _, rfl, ite2 (fun c => ?_) (fun c => ?_)⟩
    · have c' : k < (((ns.map V.int).length : Nat) : Int) := of_decide_eq_true c
      rw [List.length_map] at c'
      obtain ⟨v, _, hv⟩ := at_int (ns := ns) h0 c'
      exact ⟨_, rfl, _, rfl, a, _, _, _, rfl, rfl, hS, hv, v, rfl, rfl⟩
    · exact ⟨_, rfl, 3, k, rfl, rfl, .inl ⟨by decide, by decide⟩, _, _, rfl, rfl, _, rfl, rfl⟩
  · rintro σ' H' ⟨c, rfl, rfl⟩
    refine ⟨_, rfl, c, rfl, _, _, rfl, rfl, mul_ok0, _, _, rfl, rfl, (by decide +kernel), _, _, rfl, urnText_int, urnText_len, _, _, rfl, rfl, (by show (0 : Int) < 10 ^ 300; decide +kernel), _, rfl, c, rfl, 10, 18, rfl, rfl, ⟨by decide, by decide, by decide⟩, _, _, rfl, rfl, .inr ⟨_, rfl, _, _, rfl, rfl, .inr ?_, ?_⟩⟩
    · exact ind_bd _
    obtain ⟨o1, o2⟩ := own_lt c (decide (10 ^ (18 : Int).toNat ≤ if c < 0 then -c else c))
    refine ⟨_, rfl, _, rfl, c, _, rfl, rfl, (by show (0 : Int) < 2305843009213693951; decide), _, rfl, 7919, k, rfl, rfl, .inl ⟨by decide, by decide⟩, _, rfl, _, k, rfl, rfl, .inl ⟨by omega, by omega⟩, _, _, rfl, rfl, _, _, rfl, rfl, _, _, rfl, rfl, .inr ⟨by decide, by decide⟩, _, _, rfl, rfl, (by show (0 : Int) < 2305843009213693951; decide), (by show 2 ≤ sizeLine; decide), fun p np => ?_⟩
    exact q _ p (same_new np) np ⟨_, _, upd_same, o1, o2, Int.emod_nonneg _ (by decide), Int.emod_lt_of_pos _ (by decide)⟩
theorem ok_take {f : Addr} {fd : FuncData} {k : Nat} (F : Fun K "_law_take" "_law_take" sTake f fd) :
    FnOk P w K mg base CX0 (k + 1) f fd ["_law_urn_here", "_law_below"] spTake := by
  refine F.ok scTake (fun vs H Q E h => ?_) (fun cdv A outer s H vs Q E hr h => ?_)
  · obtain ⟨p, n, rfl, _⟩ := h
    rfl
  obtain ⟨p, n, rfl, ⟨u, v, hp, u0, u1, v0, v1⟩, n0, n1, q⟩ := h
  refine ⟨_, pss_cons (ps_if (pt_cmpR op_gt (pe_ix ix_list (pv 0) pe_int (fun _ _ => rfl)) pe_int (nomark _))
      (pss_cons (ps_set (i := 2) scTake.nd rfl (.inl rfl) (pe_op op_mod (pe_ix ix_list (pv 0) pe_int (fun _ _ => rfl)) (pv 1)))
      (pss_cons (ps_asg (pe_op op_fdivW (pe_ix ix_list (pv 0) pe_int (fun _ _ => rfl)) (pv 1)) (pg_sub (pv 0) pe_int set_list))
      (pss_one (ps_ret (pv 2))))) pss_nil)
    (pss_cons (ps_asg (pe_op op_mod (pe_op op_add (pe_op op_mul (pe_ix ix_list (pv 0) pe_int (fun _ _ => rfl)) pe_int) pe_int) pe_int) (pg_sub (pv 0) pe_int set_list))
    (pss_cons (ps_set (i := 3) scTake.nd rfl (.inl rfl) (pe_op op_mod (pe_op op_mul (pe_op op_fdiv (pe_ix ix_list (pv 0) pe_int (fun _ _ => rfl)) pe_int) (pe_op op_add (pe_op op_mod (pe_ix ix_list (pv 0) pe_int (fun _ _ => rfl)) pe_int) pe_int)) pe_int))
    (Evl.pss_cut (ps_if (pt_cmpR op_gt (pv 1) (pe_op op_pow pe_int pe_int) (nomark _))
      (pss_cons (ps_asg (pe_op op_mod (pe_op op_add (pe_op op_mul (pe_ix ix_list (pv 0) pe_int (fun _ _ => rfl)) pe_int) pe_int) pe_int) (pg_sub (pv 0) pe_int set_list))
      (pss_one (ps_set (i := 3) scTake.nd rfl (.inl rfl) (pe_op op_add (pe_op op_mul (pv 3) pe_int) (pe_ix ix_list (pv 0) pe_int (fun _ _ => rfl)))))) pss_nil)
    (pss_one (ps_ret (pe_op op_mod (pe_op op_fdiv (pv 3) pe_int) (pv 1))))))), ?_⟩
  refine ⟨_, rfl, p, _, 0, .int u, rfl, rfl, SqL.of hp, rfl, _, _, rfl, rfl, _, rfl, ite2 (fun c => ?_) (fun c => ?_)⟩
  · have c' : 0 < u := of_decide_eq_true c
    refine ⟨_, rfl, p, _, 0, .int u, rfl, rfl, SqL.of hp, rfl, _, rfl, u, n, rfl, rfl, n0, ?_⟩
    refine ⟨_, rfl, p, _, 0, .int u, rfl, rfl, SqL.of hp, rfl, _, rfl, u, n, rfl, rfl, wide_div (b := 1000) n0 n1 (by decide) (by decide), _, rfl, p, _, 0, 0, rfl, rfl, hp, rfl, _, rfl, ?_⟩
    refine q _ _ (Int.emod_nonneg _ (by omega)) (Int.emod_lt_of_pos _ n0) ⟨_, v, upd_same, ?_, ?_, v0, v1⟩ But.upd
    · exact Int.ediv_nonneg (by omega) (by omega)
    · have h1 : 0 ≤ u / n := Int.ediv_nonneg (by omega) (by omega)
      have h2 : u / n ≤ u := Int.ediv_le_self _ (by omega)
      omega
  · refine ⟨_, rfl, p, _, 1, .int v, rfl, rfl, SqL.of hp, rfl, v, _, rfl, rfl, .inl ⟨by omega, by omega⟩, _, _, rfl, rfl, _, _, rfl, rfl, (by show (0 : Int) < 2305843009213693951; decide), _, rfl, p, _, 1, 1, rfl, rfl, hp, rfl, ?_⟩
    have w0 := nx0 v
    have w1 := nx1 v
    have hx : (upd H p (.lst [.int u, .int (nx v)])) p = some (.lst [.int u, .int (nx v)]) := upd_same
    refine ⟨_, rfl, p, _, 1, .int (nx v), rfl, rfl, SqL.of hx, rfl, nx v, _, rfl, rfl, ⟨by decide, by decide⟩, _, rfl, p, _, 1, .int (nx v), rfl, rfl, SqL.of hx, rfl, nx v, _, rfl, rfl, (by show (0 : Int) < 65537; decide), _, _, rfl, rfl, _, _, rfl, rfl, .inr ⟨by omega, by omega⟩, _, _, rfl, rfl, (by show (0 : Int) < 2305843009213693921; decide), ?_⟩
    refine ⟨fun σ H' => ∃ m y : Int, σ = [some (.ref p), some (.int n), none, some (.int m)] ∧ H' = upd H p (.lst [.int u, .int y]) ∧ 0 ≤ y ∧ y < 2305843009213693951, ?_, ?_⟩
    · refine ⟨_, rfl, 10, 9, rfl, rfl, ⟨by decide, by decide, by decide⟩, _, _, rfl, rfl, _, rfl, ite2 (fun c => ?_) (fun c => ?_)⟩
      · refine ⟨_, rfl, p, _, 1, .int (nx v), rfl, rfl, SqL.of hx, rfl, nx v, _, rfl, rfl, .inl ⟨by omega, by omega⟩, _, _, rfl, rfl, _, _, rfl, rfl, (by show (0 : Int) < 2305843009213693951; decide), _, rfl, p, _, 1, 1, rfl, rfl, hx, rfl, ?_⟩
        have hy : (upd (upd H p (.lst [.int u, .int (nx v)])) p (.lst [.int u, .int (ny (nx v))])) p = some (.lst [.int u, .int (ny (nx v))]) := upd_same
        refine ⟨_, rfl, _, _, rfl, rfl, .inr ⟨by decide, by decide⟩, _, rfl, p, _, 1, .int (ny (nx v)), rfl, rfl, SqL.of hy, rfl, _, _, rfl, rfl, ?_⟩
        exact ⟨_, ny (nx v), rfl, upd_upd, ny0 _, ny1 _⟩
      · exact ⟨_, nx v, rfl, rfl, w0, w1⟩
    · rintro σ' H' ⟨m, y, rfl, rfl, y0, y1⟩
      refine ⟨_, rfl, m, 97, rfl, rfl, ⟨by decide, by decide⟩, _, rfl, _, n, rfl, rfl, n0, ?_⟩
      exact q _ _ (Int.emod_nonneg _ (by omega)) (Int.emod_lt_of_pos _ n0) ⟨u, y, upd_same, u0, u1, y0, y1⟩ But.upd
theorem ok_of {f fT : Addr} {fd fdT : FuncData} {k : Nat} (F : Fun K "_law_of" "_law_of" sOf f fd) (FT : Fun K "_law_take" "_law_take" sTake fT fdT) (bT : Binds K fdT ["_law_urn_here", "_law_below"] []) (gT : mg "_law_take" = some (.ref fT)) (ml : mg "len" = none) :
    FnOk P w K mg base CX0 (k + 2) f fd ["_law_urn_here", "_law_items"] (spOf K) := by
  have GT : FnOk P w K mg base CX0 (k + 1) fT fdT ["_law_urn_here", "_law_below"] spTake := ok_take FT
  refine F.ok scOf (fun vs H Q E h => ?_) (fun cdv A outer s H vs Q E hr h => ?_)
  · obtain ⟨p, r, xs, rfl, _⟩ := h
    rfl
  obtain ⟨p, r, xs, rfl, hU, nr, hr2, hx, hl, q⟩ := h
  refine ⟨_, pss_one (ps_ret (pe_ix ix_list (pv 1) (pe_call GT hr (by rfl) gT FT.kp bT .nil pass0 (pa_cons (pv 0) (pa_cons (pe_callB call_len_seq (by rfl) ml PySem.boot_len (pa_cons (pv 1) pa_nil)) pa_nil))) (fun _ _ => rfl))), ?_⟩
  have l0 : 0 < xs.length := List.length_pos_iff.mpr hx
  have l1 : (1000 : Nat) < wide := by decide +kernel
  refine ⟨_, rfl, _, rfl, _, rfl, r, xs, rfl, .inl hr2, p, _, rfl, hU, by omega, by omega, fun d H' d0 d1 hU' hb => ?_⟩
  obtain ⟨x, mx, hx2⟩ := at_any (xs := xs) d0 d1
  exact ⟨r, xs, d, x, rfl, rfl, hb.seq nr hr2, hx2, q x H' mx hU' hb⟩
end
section
variable {P : Program} {w : World} {K : PySem.W.Frag} {mg : Str → Option Value} {base : Heap}
theorem has_urn (M : Bl mg) (F : At K mg "_law_urn" sUrn ["_law_script", "_law_k"]) : Has P w K mg base 1 "_law_urn" ["_law_script", "_law_k"] (spUrn K) := by
  obtain ⟨f, fd, F, b, g⟩ := F
  exact ⟨f, fd, .of (ok_urn F M.len_ M.abs_ M.int_), F.kp, b, g, fun_lk F⟩
theorem has_take (F : At K mg "_law_take" sTake ["_law_urn_here", "_law_below"]) : Has P w K mg base 1 "_law_take" ["_law_urn_here", "_law_below"] spTake := by
  obtain ⟨f, fd, F, b, g⟩ := F
  exact ⟨f, fd, .of (ok_take F), F.kp, b, g, fun_lk F⟩
theorem has_of (M : Bl mg) (F : At K mg "_law_of" sOf ["_law_urn_here", "_law_items"]) (FT : At K mg "_law_take" sTake ["_law_urn_here", "_law_below"]) : Has P w K mg base 2 "_law_of" ["_law_urn_here", "_law_items"] (spOf K) := by
  obtain ⟨f, fd, F, b, g⟩ := F
  obtain ⟨f2, fd2, F2, b2, g2⟩ := FT
  exact ⟨f, fd, .of (ok_of F F2 b2 g2 M.len_), F.kp, b, g, fun_lk F⟩
theorem ok_prime (F : At K mg "_law_prime" sPrime ["_law_urn_here"]) {k : Nat} (h : Has P w K mg base k "_law_of" ["_law_urn_here", "_law_items"] (spOf K)) : Has P w K mg base (k + 1) "_law_prime" ["_law_urn_here"] spPrimeU := by
  obtain ⟨_, _, cOf⟩ := h
  refine Has.by F scPrime (fun vs H Q E h => ?_) (fun f cdv A out s H vs Q E hg hr h => ?_)
  · obtain ⟨p, rfl, _⟩ := h
    rfl
  obtain ⟨p, rfl, hU, q⟩ := h
  refine ⟨_, (pss_one (ps_ret (pe_cal cOf hg hr (by rfl) (pa_cons (pv 0) (pa_cons (pe_lst (pa_cons pe_int (pa_cons pe_int (pa_cons pe_int (pa_cons pe_int (pa_cons pe_int (pa_cons pe_int (pa_cons pe_int (pa_cons pe_int (pa_cons pe_int (pa_cons pe_int (pa_cons pe_int (pa_cons pe_int (pa_cons pe_int pa_nil)))))))))))))) pa_nil))))), ?_⟩
  refine ⟨_, rfl, (by show 13 ≤ sizeLine; decide), fun l nl => ?_⟩
  refine ⟨p, l, _, rfl, hU.same (same_new nl), hU.ne nl, SqL.of upd_same, (by intro z; cases z), (by show 13 ≤ 1000; decide), fun x H' hx hU' hb => ?_⟩
  have hx2 : x ∈ prs.map V.int := hx
  obtain ⟨z, hz, rfl⟩ := List.mem_map.mp hx2
  exact q z H' hz hU' (But.trans (But.new nl) hb)
theorem ok_words (F : At K mg "_law_words" sWords []) : Has P w K mg base 1 "_law_words" [] spWords := by
  refine Has.by F scWords (fun vs H Q E h => ?_) (fun f cdv A out s H vs Q E hg hr h => ?_)
  · obtain ⟨rfl, _⟩ := h
    rfl
  obtain ⟨rfl, q⟩ := h
  exact ⟨_, (pss_one (ps_ret (pe_lst (pa_cons pe_str (pa_cons pe_str (pa_cons pe_str (pa_cons pe_str (pa_cons pe_str (pa_cons pe_str (pa_cons pe_str (pa_cons pe_str (pa_cons pe_str pa_nil)))))))))))), (by show 9 ≤ sizeLine; decide), fun l nl => q l nl⟩
theorem tup_op {H : Hp} {t : Addr} {u : Str} {as : List Int} (n : H t = none) : TrAt K (upd H t (.tup (.str u :: as.map V.int))) (.op u as) (.ref t) := by
  rw [TrAt]
  exact ⟨t, rfl, SqT.of upd_same⟩
theorem ok_item (M : Bl mg) (F : At K mg "_law_item" sItem ["_law_urn_here", "_law_p", "_law_n", "_law_words_here"]) {k : Nat} (h : Has P w K mg base k "_law_of" ["_law_urn_here", "_law_items"] (spOf K)) (h2 : Has P w K mg base k "_law_take" ["_law_urn_here", "_law_below"] spTake) :
    Has P w K mg base (k + 1) "_law_item" ["_law_urn_here", "_law_p", "_law_n", "_law_words_here"] (spItem K) := by
  obtain ⟨_, _, cOf⟩ := h
  obtain ⟨_, _, cTake⟩ := h2
  refine Has.by F scItem (fun vs H Q E h => ?_) (fun f cdv A out s H vs Q E hg hr h => ?_)
  · obtain ⟨_, _, _, _, _, rfl, _⟩ := h
    rfl
  obtain ⟨u, ws, p, n, wl, rfl, hU, p0, p1, n0, n1, nw, sq, wne, wle, w7, q⟩ := h
  refine ⟨_, (pss_cons (ps_set (i := 4) scItem.nd rfl (.inl rfl) (pe_cal cOf hg hr (by rfl) (pa_cons (pv 0) (pa_cons (pv 3) pa_nil))))
  (pss_cons (ps_par (i := 5) (j := 6) (by rfl) scItem.nd rfl rfl (by decide) rfl rfl (pa_cons (pe_cal cTake hg hr (by rfl) (pa_cons (pv 0) (pa_cons (pv 2) pa_nil))) (pa_cons (pe_cal cOf hg hr (by rfl) (pa_cons (pv 0) (pa_cons (pe_lst (pa_cons pe_int (pa_cons (pe_op op_mod pe_int (pv 1)) (pa_cons (pe_op op_sub (pv 1) pe_int) (pa_cons (pe_cal cTake hg hr (by rfl) (pa_cons (pv 0) (pa_cons (pv 1) pa_nil))) pa_nil))))) pa_nil))) pa_nil)) (by rfl))
  (pss_cons (ps_if (pt_cmpR op_in_seq (pv 4) (pe_tup (pa_cons pe_str (pa_cons pe_str pa_nil))) (by rfl))
    (pss_one (ps_ret (pe_tup (pa_cons (pv 4) (pa_cons (pv 5) (pa_cons (pv 6) pa_nil))))))
    pss_nil)
  (pss_cons (ps_if (pt_cmpR op_in_seq (pv 4) (pe_tup (pa_cons pe_str (pa_cons pe_str pa_nil))) (by rfl))
    (pss_one (ps_ret (pe_tup (pa_cons (pv 4) (pa_cons (pv 5) pa_nil)))))
    pss_nil)
  (pss_cons (ps_if (pt_cmpR op_eq (pv 2) pe_int (nomark _))
    (pss_one (ps_ret (pe_tup (pa_cons pe_str (pa_cons pe_int (pa_cons (pv 6) pa_nil))))))
    pss_nil)
  (pss_cons (ps_set (i := 7) scItem.nd rfl (.inl rfl) (pe_op op_mod (pe_op op_add (pe_op op_add (pv 5) pe_int) (pe_cal cTake hg hr (by rfl) (pa_cons (pv 0) (pa_cons (pe_op op_sub (pv 2) pe_int) pa_nil)))) (pv 2)))
  (pss_cons (ps_if (pt_cmpR op_eq (pv 4) pe_str (nomark _))
    (pss_one (ps_ret (pe_tup (pa_cons (pv 4) (pa_cons (pv 5) (pa_cons (pv 7) (pa_cons (pe_ifExp (pt_cmpR op_gt (pv 1) pe_int (nomark _)) (pe_op op_add pe_int (pe_op op_mod (pv 6) (pe_op op_sub (pv 1) pe_int))) pe_int) pa_nil)))))))
    pss_nil)
  (pss_one (ps_ret (pe_tup (pa_cons (pv 4) (pa_cons (pv 5) (pa_cons (pv 7) pa_nil))))))))))))), ?_⟩
  -- the word
  refine ⟨_, rfl, _, rfl, u, ws, _, rfl, hU, nw, sq, (by simpa using wne), (by rw [List.length_map]; exact wle), fun x H1 hx u1 b1 => ?_⟩
  obtain ⟨z, hz, rfl⟩ := List.mem_map.mp hx
  -- x and c
  refine ⟨_, rfl, _, rfl, u, n, rfl, u1, by omega, wide_big (by omega) (by omega), fun x H2 x0 x1 u2 b2 => ?_⟩
  refine ⟨_, rfl, _, rfl, 1, p, rfl, rfl, (by show (0 : Int) < p; omega), _, rfl, p, 1, rfl, rfl, _, rfl, _, rfl, u, p, rfl, u2, by omega, wide_big (by omega) (by omega), fun c3 H3 c30 c31 u3 b3 => ?_⟩
  refine ⟨(by show 4 ≤ sizeLine; decide), fun l nl => ?_⟩
  refine ⟨u, l, _, rfl, u3.same (same_new nl), u3.ne nl, SqL.of upd_same, (by intro z; cases z), (by show 4 ≤ 1000; decide), fun c H4 hc u4 b4 => ?_⟩
  have bb : But u H H4 := ((b1.trans b2).trans b3).trans ((But.new nl).trans b4)
  obtain ⟨c, rfl, c0, c1⟩ : ∃ c' : Int, c = .int c' ∧ 0 ≤ c' ∧ c' < p := by
    have m0 := Int.emod_nonneg 1 (show p ≠ 0 by omega)
    have m1 := Int.emod_lt_of_pos 1 (show 0 < p by omega)
    simp only [List.mem_cons, List.not_mem_nil, or_false] at hc
    rcases hc with rfl | rfl | rfl | rfl
    · exact ⟨0, rfl, by omega, by omega⟩
    · exact ⟨1 % p, rfl, m0, m1⟩
    · exact ⟨p - 1, rfl, by omega, by omega⟩
    · exact ⟨c3, rfl, c30, c31⟩
  refine ⟨_, _, rfl, ?_⟩
  -- set, scale
  refine ⟨_, rfl, (by show 2 ≤ sizeLine; decide), fun t1 nt1 => ?_⟩
  refine ⟨t1, _, rfl, .inr (SqT.of upd_same), rfl, rfl, _, rfl, ite2 (fun i1 => ?_) (fun i1 => ?_)⟩
  · have e := inV2.mp i1
    refine ⟨_, rfl, _, rfl, _, rfl, (by show 3 ≤ sizeLine; decide), fun t nt => ?_⟩
    exact q z [x, c] _ _ (.inl ⟨e, x, c, rfl, x0, x1, c0, c1⟩) (.inl hz) (tup_op (as := [x, c]) nt) ((u4.same (same_new nt1)).same (same_new nt)) (bb.trans ((But.new nt1).trans (But.new nt)))
  -- read, write
  refine ⟨_, rfl, (by show 2 ≤ sizeLine; decide), fun t2 nt2 => ?_⟩
  have u6 := (u4.same (same_new (o := .tup [.str "set", .str "scale"]) nt1)).same (same_new (o := .tup [.str "read", .str "write"]) nt2)
  have b6 : But u H _ := bb.trans ((But.new (o := .tup [.str "set", .str "scale"]) nt1).trans (But.new (o := .tup [.str "read", .str "write"]) nt2))
  refine ⟨t2, _, rfl, .inr (SqT.of upd_same), rfl, rfl, _, rfl, ite2 (fun i2 => ?_) (fun i2 => ?_)⟩
  · have e := inV2.mp i2
    refine ⟨_, rfl, _, rfl, (by show 2 ≤ sizeLine; decide), fun t nt => ?_⟩
    exact q z [x] _ _ (.inr (.inl ⟨e, x, rfl, x0, x1⟩)) (.inl hz) (tup_op (as := [x]) nt) (u6.same (same_new nt)) (b6.trans (But.new nt))
  have z1 : ¬ (z = "set" ∨ z = "scale") := fun e => i1 (inV2.mpr e)
  have z2 : ¬ (z = "read" ∨ z = "write") := fun e => i2 (inV2.mpr e)
  -- one register
  refine ⟨_, rfl, rfl, _, rfl, ite2 (fun i3 => ?_) (fun i3 => ?_)⟩
  · have e : n = 1 := V.int.inj (of_decide_eq_true i3)
    refine ⟨_, rfl, (by show 3 ≤ sizeLine; decide), fun t nt => ?_⟩
    exact q "set" [0, c] _ _ (.inl ⟨.inl rfl, 0, c, rfl, by omega, by omega, c0, c1⟩) (.inr rfl) (tup_op (as := [0, c]) nt) (u6.same (same_new nt)) (b6.trans (But.new nt))
  have n2 : n ≠ 1 := fun e => i3 (decide_eq_true (congrArg V.int e))
  -- y
  refine ⟨_, rfl, _, _, rfl, rfl, _, rfl, _, rfl, n, 1, rfl, rfl, u, _, rfl, u6, by omega, wide_big (by omega) (by omega), fun d H7 d0 d1 u7 b7 => ?_⟩
  refine ⟨_, _, rfl, rfl, _, rfl, _, n, rfl, rfl, (by show (0 : Int) < n; omega), ?_⟩
  have y0 := Int.emod_nonneg (x + 1 + d) (show n ≠ 0 by omega)
  have y1 := Int.emod_lt_of_pos (x + 1 + d) (show 0 < n by omega)
  have yx : x ≠ (x + 1 + d) % n := fun e => by
    have h := Int.emod_def (x + 1 + d) n
    by_cases g : x + 1 + d < n
    · rw [Int.emod_eq_of_lt (by omega) g] at e
      omega
    · have h2 : (x + 1 + d) % n = x + 1 + d - n := by
        rw [← Int.sub_emod_right]
        exact Int.emod_eq_of_lt (by omega) (by omega)
      omega
  -- add
  refine ⟨_, rfl, rfl, _, rfl, ite2 (fun i4 => ?_) (fun i4 => ?_)⟩
  · have e : z = "add" := V.str.inj (of_decide_eq_true i4)
    refine ⟨_, rfl, _, rfl, _, rfl, _, rfl, p, 2, rfl, rfl, _, rfl, ite2 (fun i5 => ?_) (fun i5 => ?_)⟩
    · have g : 2 < p := of_decide_eq_true i5
      have m0 := Int.emod_nonneg c (show p - 1 ≠ 0 by omega)
      have m1 := Int.emod_lt_of_pos c (show 0 < p - 1 by omega)
      refine ⟨_, rfl, _, rfl, p, 1, rfl, rfl, c, _, rfl, rfl, (by show (0 : Int) < p - 1; omega), 1, _, rfl, rfl, (by show 4 ≤ sizeLine; decide), fun t nt => ?_⟩
      exact q z [x, (x + 1 + d) % n, 1 + c % (p - 1)] _ _ (.inr (.inr (.inr ⟨e, x, _, _, rfl, x0, x1, y0, y1, yx, by omega, by omega⟩))) (.inl hz) (tup_op (as := [x, (x + 1 + d) % n, 1 + c % (p - 1)]) nt) (u7.same (same_new nt)) ((b6.trans b7).trans (But.new nt))
    · refine ⟨(by show 4 ≤ sizeLine; decide), fun t nt => ?_⟩
      exact q z [x, (x + 1 + d) % n, 1] _ _ (.inr (.inr (.inr ⟨e, x, _, _, rfl, x0, x1, y0, y1, yx, by omega, by omega⟩))) (.inl hz) (tup_op (as := [x, (x + 1 + d) % n, 1]) nt) (u7.same (same_new nt)) ((b6.trans b7).trans (But.new nt))
  · have e : z ≠ "add" := fun e => i4 (decide_eq_true (congrArg V.str e))
    have hz7 := w7 z hz
    have e2 : z = "copy" ∨ z = "swap" := by
      simp only [W7, List.mem_cons, List.not_mem_nil, or_false] at hz7
      rcases hz7 with h | h | h | h | h | h | h
      · exact absurd (.inl h) z1
      · exact .inl h
      · exact absurd h e
      · exact absurd (.inr h) z1
      · exact .inr h
      · exact absurd (.inl h) z2
      · exact absurd (.inr h) z2
    refine ⟨_, rfl, _, rfl, _, rfl, (by show 3 ≤ sizeLine; decide), fun t nt => ?_⟩
    exact q z [x, (x + 1 + d) % n] _ _ (.inr (.inr (.inl ⟨e2, x, _, rfl, x0, x1, y0, y1, yx⟩))) (.inl hz) (tup_op (as := [x, (x + 1 + d) % n]) nt) (u7.same (same_new nt)) ((b6.trans b7).trans (But.new nt))
end
end K07
set_option Elab.async false
set_option linter.all false
set_option maxRecDepth 100000
set_option pp.maxSteps 500
set_option pp.deepTerms.threshold 8
set_option pp.deepTerms false
namespace K07
open PySem PySem.Spec PyProof.Rows L2 Lj
section
variable {P : Program} {w : World} {K : PySem.W.Frag} {mg : Str → Option Value} {base : Heap}
theorem ok_body1 (M : Bl mg) (F : At K mg "_law_body" sBody ["_law_urn_here", "_law_p", "_law_n", "_law_words_here", "_law_length", "_law_deep", "_law_rounds"]) {d k : Nat}
    (h : Has P w K mg base k "_law_of" ["_law_urn_here", "_law_items"] (spOf K)) (h2 : Has P w K mg base k "_law_take" ["_law_urn_here", "_law_below"] spTake)
    (h3 : Has P w K mg base k "_law_item" ["_law_urn_here", "_law_p", "_law_n", "_law_words_here"] (spItem K)) (h4 : Has P w K mg base k "_law_body" ["_law_urn_here", "_law_p", "_law_n", "_law_words_here", "_law_length", "_law_deep", "_law_rounds"] (spBody K d)) :
    Has P w K mg base (k + 1) "_law_body" ["_law_urn_here", "_law_p", "_law_n", "_law_words_here", "_law_length", "_law_deep", "_law_rounds"] (spBody K (d + 1)) := by
  obtain ⟨_, _, cOf⟩ := h
  obtain ⟨_, _, cTake⟩ := h2
  obtain ⟨_, _, cItem⟩ := h3
  obtain ⟨_, _, cBody⟩ := h4
  refine Has.by F scBody (fun vs H Q E h => ?_) (fun f cdv A out s H vs Q E hg hr h => ?_)
  · obtain ⟨_, _, _, _, _, _, _, _, _, rfl, _⟩ := h
    rfl
  obtain ⟨u, ws, rs, p, n, wl, rl, l, e, rfl, hU, p0, p1, n0, n1, nw, sqw, wne, wle, w7, nr, sqr, rne, rle, l1, ed, q⟩ := h
  refine ⟨_, (pss_cons (ps_set (i := 7) scBody.nd rfl (.inl rfl) (pe_lst pa_nil))
  (pss_cons (ps_for PassesOwn.never rfl (pi_range1 (by rfl) M.range_ (pa_cons (pe_cal cTake hg hr (by rfl) (pa_cons (pv 0) (pa_cons (pe_op op_add (pv 4) pe_int) pa_nil))) pa_nil)) (pg_name (i := 8) scBody.nd rfl (.inl rfl))
    (pss_one (ps_if (PW.pt (pw_and (pt_cmpR op_gt (pv 5) pe_int (nomark _)) (pw_and1 (pt_cmpR op_eq (pe_cal cTake hg hr (by rfl) (pa_cons (pv 0) (pa_cons pe_int pa_nil))) pe_int (nomark _)))))
    (pss_cons (ps_set (i := 9) scBody.nd rfl (.inl rfl) (pe_cal cBody hg hr (by rfl) (pa_cons (pv 0) (pa_cons (pv 1) (pa_cons (pv 2) (pa_cons (pv 3) (pa_cons (pe_op op_fdiv (pv 4) pe_int) (pa_cons (pe_op op_sub (pv 5) pe_int) (pa_cons (pv 6) pa_nil)))))))))
  (pss_one (ps_expr (pe_bm PySem.F.plainAttrs_list PySem.F.slot_list_append PySem.F.type_list_append mt_append (pv 7) (pa_cons (pe_tup (pa_cons pe_str (pa_cons (pe_cal cOf hg hr (by rfl) (pa_cons (pv 0) (pa_cons (pv 6) pa_nil))) (pa_cons (pv 9) pa_nil)))) pa_nil)))))
    (pss_one (ps_expr (pe_bm PySem.F.plainAttrs_list PySem.F.slot_list_append PySem.F.type_list_append mt_append (pv 7) (pa_cons (pe_cal cItem hg hr (by rfl) (pa_cons (pv 0) (pa_cons (pv 1) (pa_cons (pv 2) (pa_cons (pv 3) pa_nil))))) pa_nil)))))))
  (pss_one (ps_ret (pe_callTy call_tuple_of (by rfl) M.tuple_ (by decide +kernel) (pa_cons (pv 7) pa_nil)))))), ?_⟩
  refine ⟨Nat.zero_le _, fun fo nfo => ?_⟩
  have nfu : fo ≠ u := hU.ne nfo
  refine ⟨_, rfl, _, rfl, (l : Int), 1, rfl, rfl, u, _, rfl, hU.same (same_new nfo), by omega, wide_big (by omega) (by omega), fun m H1 m0 m1 u1 b1 => ?_⟩
  refine ⟨m, rfl, by omega, by omega, ?_⟩
  refine for_range (lo := 0) (n := m.toNat) (fun i σ H' => ∃ y8 y9 bs us, σ = [some (.ref u), some (.int p), some (.int n), some (.ref ws), some (.int (l : Int)), some (.int (e : Int)), some (.ref rs), some (.ref fo), y8, y9] ∧ Urn H' u ∧ But u H H' ∧ H' fo = some (.lst us) ∧
    TrsAt K H' bs us ∧ bs.length = i ∧ mades (fun w as => GoodOp p n w as ∧ (w ∈ wl ∨ w = "set")) (fun k => k ∈ rl) bs l e) ⟨none, none, [], [], rfl, u1, (But.new nfo).trans b1, b1 _ _ nfu upd_same, TrsAt.nil, rfl, mades_nil⟩ ?_ ?_
  · rintro i σ H2 hi ⟨y8, y9, bs, us, rfl, u2, b2, h2, tr2, hlen, hmad⟩
    refine ⟨_, rfl, (e : Int), 0, rfl, rfl, _, rfl, ite2 (fun c => ?_) (fun c => ?_)⟩
    · have c' : (0 : Int) < (e : Int) := of_decide_eq_true c
      refine ⟨_, rfl, u, 4, rfl, u2, by decide, wide_big (by decide) (by decide), fun z H3 z0 z1 u3 b3 => ?_⟩
      have h3 := b3 _ _ nfu h2
      have tr3 := TrsAt.kt (u2.kt b3) _ _ tr2
      have b23 := b2.trans b3
      refine ⟨rfl, _, rfl, ite2 (fun c2 => ?_) (fun c2 => ?_)⟩
      · have e1 : ((l : Int) / 2) = ((l / 2 : Nat) : Int) := by omega
        have e2 : ((e : Int) - 1) = ((e - 1 : Nat) : Int) := by omega
        refine ⟨_, rfl, _, rfl, _, rfl, _, rfl, _, rfl, (l : Int), 2, rfl, rfl, ⟨by decide, by decide⟩, _, rfl, (e : Int), 1, rfl, rfl, _, rfl, u, ws, rs, p, n, wl, rl, l / 2, e - 1, ?_, u3, p0, p1, n0, n1, nw, b23.seq nw sqw, wne, wle, w7, nr, b23.seq nr sqr, rne, rle, by omega, by omega, fun b' v' H4 len4 mad4 body4 u4 b4 => ?_⟩
        · show [V.ref u, V.int p, V.int n, V.ref ws, V.int ((l : Int) / 2), V.int ((e : Int) - 1), V.ref rs] = _
          rw [e1, e2]
        have h4 := b4 _ _ nfu h3
        have b24 := b23.trans b4
        refine ⟨_, rfl, .inl ⟨rfl, _, SqL.of h4⟩, _, rfl, _, rfl, u, rs, _, rfl, u4, nr, b24.seq nr sqr, (by simpa using rne), (by rw [List.length_map]; exact rle), fun x H5 hx u5 b5 => ?_⟩
        obtain ⟨k', hk, rfl⟩ := List.mem_map.mp hx
        obtain ⟨c4, vs4, rfl, sq4, tr4⟩ := body4
        refine ⟨_, rfl, (by show 3 ≤ sizeLine; decide), fun t nt => ?_⟩
        have h5 := b5 _ _ nfu h4
        have h6 : (upd H5 t (.tup [.str "loop", .int k', .ref c4])) fo = some (.lst us) := same_new nt _ _ h5
        refine ⟨fo, _, _, rfl, rfl, h6, ?_, ?_⟩
        · rw [tr2.length, hlen]
          exact small1000 (by omega)
        · have kt6 : Kt (upd H5 t (.tup [.str "loop", .int k', .ref c4])) (upd (upd H5 t (.tup [.str "loop", .int k', .ref c4])) fo (.lst (us ++ [.ref t]))) := Kt.but But.upd h6
          have kt5 : Kt H5 (upd (upd H5 t (.tup [.str "loop", .int k', .ref c4])) fo (.lst (us ++ [.ref t]))) := (Kt.same (same_new nt)).trans kt6
          have kt4 := (u4.kt b5).trans kt5
          have kt3 := (u3.kt b4).trans kt4
          have ntf : t ≠ fo := (ne_of_none h5 nt).symm
          refine ⟨_, _, bs ++ [.loop k' b'], us ++ [.ref t], rfl, (u5.same (same_new nt)).but (q := fo) But.upd nfu.symm, fun x o hx ho => ?_, upd_same, (TrsAt.kt kt3 _ _ tr3).append (TrsAt.one ?_), by rw [List.length_append, hlen]; rfl, mades_append hmad (mades_one ?_)⟩
          · rw [upd_ne (ne_of_none ho nfo)]
            exact same_new nt _ _ (b5 _ _ hx (b24 _ _ hx ho))
          · rw [TrAt]
            exact ⟨t, c4, vs4, rfl, kt6.sq (SqT.of upd_same), kt4.sq sq4, TrsAt.kt kt4 _ _ tr4⟩
          · obtain ⟨e', rfl⟩ : ∃ e', e = e' + 1 := ⟨e - 1, by omega⟩
            rw [Tr.made]
            exact ⟨hk, len4, mad4⟩
      · refine ⟨_, rfl, .inl ⟨rfl, _, SqL.of h3⟩, _, rfl, _, rfl, _, rfl, _, rfl, u, ws, p, n, wl, rfl, u3, p0, p1, n0, n1, nw, b23.seq nw sqw, wne, wle, w7, fun w' as v H9 good inl tr u9 b9 => ?_⟩
        refine ⟨fo, _, _, rfl, rfl, b9 _ _ nfu h3, ?_, ?_⟩
        · rw [tr3.length, hlen]
          exact small1000 (by omega)
        · have kt9 : Kt H9 (upd H9 fo (.lst (us ++ [v]))) := Kt.but But.upd (b9 _ _ nfu h3)
          refine ⟨_, _, bs ++ [.op w' as], us ++ [v], rfl, u9.but (q := fo) But.upd nfu.symm, fun x o hx ho => ?_, upd_same, (TrsAt.kt ((u3.kt b9).trans kt9) _ _ tr3).append (TrsAt.one (TrAt.kt kt9 _ _ tr)), by rw [List.length_append, hlen]; rfl, mades_append hmad (mades_one (by rw [Tr.made]; exact ⟨good, inl⟩))⟩
          rw [upd_ne (ne_of_none ho nfo)]
          exact b9 _ _ hx (b23 _ _ hx ho)
    · refine ⟨_, rfl, .inl ⟨rfl, _, SqL.of h2⟩, _, rfl, _, rfl, _, rfl, _, rfl, u, ws, p, n, wl, rfl, u2, p0, p1, n0, n1, nw, b2.seq nw sqw, wne, wle, w7, fun w' as v H9 good inl tr u9 b9 => ?_⟩
      refine ⟨fo, _, _, rfl, rfl, b9 _ _ nfu h2, ?_, ?_⟩
      · rw [tr2.length, hlen]
        exact small1000 (by omega)
      · have kt9 : Kt H9 (upd H9 fo (.lst (us ++ [v]))) := Kt.but But.upd (b9 _ _ nfu h2)
        refine ⟨_, _, bs ++ [.op w' as], us ++ [v], rfl, u9.but (q := fo) But.upd nfu.symm, fun x o hx ho => ?_, upd_same, (TrsAt.kt ((u2.kt b9).trans kt9) _ _ tr2).append (TrsAt.one (TrAt.kt kt9 _ _ tr)), by rw [List.length_append, hlen]; rfl, mades_append hmad (mades_one (by rw [Tr.made]; exact ⟨good, inl⟩))⟩
        rw [upd_ne (ne_of_none ho nfo)]
        exact b9 _ _ hx (b2 _ _ hx ho)
  · rintro σ H2 ⟨y8, y9, bs, us, rfl, u2, b2, h2, tr2, hlen, hmad⟩
    refine ⟨_, rfl, fo, us, rfl, .inl ⟨SqL.of h2, fun t nt => ?_⟩⟩
    exact q bs (.ref t) _ (by omega) hmad ⟨t, us, rfl, SqT.of upd_same, TrsAt.kt (Kt.same (same_new nt)) _ _ tr2⟩ (u2.same (same_new nt)) (b2.trans (But.new nt))
theorem ok_body (M : Bl mg) (F : At K mg "_law_body" sBody ["_law_urn_here", "_law_p", "_law_n", "_law_words_here", "_law_length", "_law_deep", "_law_rounds"]) {k : Nat}
    (h : Has P w K mg base k "_law_of" ["_law_urn_here", "_law_items"] (spOf K)) (h2 : Has P w K mg base k "_law_take" ["_law_urn_here", "_law_below"] spTake)
    (h3 : Has P w K mg base k "_law_item" ["_law_urn_here", "_law_p", "_law_n", "_law_words_here"] (spItem K)) :
    ∀ d, Has P w K mg base (k + d) "_law_body" ["_law_urn_here", "_law_p", "_law_n", "_law_words_here", "_law_length", "_law_deep", "_law_rounds"] (spBody K d)
  | 0 => Has.none F fun vs H Q E ⟨_, _, _, _, _, _, _, _, _, _, _, _, _, _, _, _, _, _, _, _, _, _, _, _, _, h, _⟩ => absurd h (Nat.not_lt_zero _)
  | d + 1 => ok_body1 M F (h.up (Nat.le_add_right _ _)) (h2.up (Nat.le_add_right _ _)) (h3.up (Nat.le_add_right _ _)) (ok_body M F h h2 h3 d)
/-! ### what is executed -/
theorem trs_flat {H : Hp} {b : List Tr} {vs : List V} (h : TrsAt K H b vs) : ∀ n : Nat, TrsAt K H (List.replicate n b).flatten (List.replicate n vs).flatten
  | 0 => TrsAt.nil
  | n + 1 => by
    rw [List.replicate_succ, List.flatten_cons, List.replicate_succ, List.flatten_cons]
    exact h.append (trs_flat h n)
theorem rep_succ {α : Type} (n : Nat) (xs : List α) : (List.replicate (n + 1) xs).flatten = (List.replicate n xs).flatten ++ xs := by
  rw [List.replicate_succ', List.flatten_append, List.flatten_cons, List.flatten_nil, List.append_nil]
theorem flat_take {b : List Tr} {i : Nat} {t : Tr} (e : b[i]? = some t) : exs (b.take (i + 1)) = exs (b.take i) ++ t.ex := by
  rw [exs_map, exs_map, map_next e, List.flatten_append, List.flatten_cons, List.flatten_nil, List.append_nil]
theorem ex_mem {b : List Tr} {i : Nat} {t : Tr} (e : b[i]? = some t) : ∀ x ∈ t.ex, x ∈ exs b := by
  intro x m
  rw [exs_map]
  exact List.mem_flatten.mpr ⟨t.ex, List.mem_map.mpr ⟨t, List.mem_of_getElem? e, rfl⟩, m⟩
theorem ex_le {b : List Tr} {i : Nat} {t : Tr} (e : b[i]? = some t) : (exs (b.take i)).length + t.ex.length ≤ (exs b).length := by
  have h : exs b = exs (b.take (i + 1)) ++ exs (b.drop (i + 1)) := by
    rw [exs_map, exs_map, exs_map, ← List.flatten_append, ← List.map_append, List.take_append_drop]
  rw [h, flat_take e, List.length_append, List.length_append]
  omega
/-! ### the law's own count of steps -/
theorem ok_lsteps1 (M : Bl mg) (F : At K mg "_law_steps" sSteps ["_law_tree"]) {n k : Nat} (h : Has P w K mg base k "_law_steps" ["_law_tree"] (spTI K (okB n) lens)) : Has P w K mg base (k + 1) "_law_steps" ["_law_tree"] (spTI K (okB (n + 1)) lens) := by
  obtain ⟨_, _, cSteps⟩ := h
  refine Has.by F scSteps (fun vs H Q E h => ?_) (fun f cdv A out s H vs Q E hg hr h => ?_)
  · obtain ⟨v, t, rfl, _⟩ := h
    rfl
  obtain ⟨v, b, rfl, ⟨c, us, rfl, sq, r⟩, ok, q⟩ := h
  refine ⟨_, (pss_one (ps_ret (pe_callB (cr_sum rfl) (by rfl) M.sum_ (by decide +kernel) (pa_cons (pe_lc (own := [("_law_item_here", 1)]) (g := gName 1) (by rfl) scSteps.nd (pi_tup (pv 0)) (blkOk_by (own := [("_law_item_here", 1)]) (N := ["_law_tree", "_law_item_here"]) (sc := defScope sSteps) (by decide +kernel)) (fun _ _ _ _ _ => (pg_name (i := 1) scSteps.nd rfl (.inl rfl))) (fun _ _ _ _ _ => pts_nil) (fun _ _ _ _ _ => (pe_ifExp (pt_cmpR op_eq (pe_ix (ix_tupK (K := K) rfl) (pv 1) pe_int (fun _ _ => rfl)) pe_str (nomark _)) (pe_op op_mul (pe_ix (ix_tupK (K := K) rfl) (pv 1) pe_int (fun _ _ => rfl)) (pe_cal cSteps hg hr (by rfl) (pa_cons (pe_ix (ix_tupK (K := K) rfl) (pv 1) pe_int (fun _ _ => rfl)) pa_nil))) pe_int))) pa_nil)))), ?_⟩
  refine ⟨_, rfl, c, rfl, ⟨_, sq⟩, fun D nD => ?_⟩
  refine lc_tup (xs := us) (fun i H' => H' D = some (.lst (((b.take i).map Tr.len).map V.int)) ∧ Same H H') ⟨upd_same, same_new nD⟩ (fun i H' _ h => (Kt.same h.2).sq sq) ?_ ?_
  · rintro i x H' hx ⟨e1, e2⟩
    obtain ⟨t, ht, hT⟩ := r.get hx
    have hT := TrAt.kt (Kt.same e2) t x hT
    have fit : (((b.take i).map Tr.len).map V.int).length < sizeLine := by
      rw [List.length_map, List.length_map, List.length_take]
      exact small1000 (Nat.le_trans (Nat.min_le_right _ _) ok.2)
    refine ⟨rfl, ?_⟩
    cases t with
    | op z as =>
      rw [TrAt] at hT
      obtain ⟨a, rfl, sq3⟩ := hT
      refine ⟨_, rfl, a, _, 0, .str z, rfl, rfl, sq3, at0, rfl, _, rfl, iteN (fun e => okB_op ok ht (V.str.inj e)) ?_⟩
      refine ⟨_, e1, fit, ?_, same_upd e2 nD⟩
      rw [upd_same, map_next ht, List.map_append, Tr.len]
      rfl
    | loop m b' =>
      rw [TrAt] at hT
      obtain ⟨a, g, ws, rfl, sq3, sq4, r2⟩ := hT
      obtain ⟨c0, c1, ok2⟩ := okB_loop ok ht
      refine ⟨_, rfl, a, _, 0, .str "loop", rfl, rfl, sq3, rfl, rfl, _, rfl, iteP rfl ?_⟩
      refine ⟨_, rfl, a, _, 1, .int m, rfl, rfl, sq3, rfl, _, rfl, a, _, 2, .ref g, rfl, rfl, sq3, rfl, _, b', rfl, ⟨g, ws, rfl, sq4, r2⟩, ok2, fun H2 sm => ?_⟩
      refine ⟨m, _, rfl, rfl, .inl ⟨by omega, by omega⟩, _, sm _ _ e1, fit, ?_, same_upd (e2.trans sm) nD⟩
      rw [upd_same, map_next ht, List.map_append, Tr.len]
      rfl
  · rintro H' ⟨e1, e2⟩
    rw [r.length, take_all] at e1
    refine ⟨D, _, rfl, SqL.of e1, ?_⟩
    rw [← lens_map]
    exact q H' e2
theorem ok_lsteps (M : Bl mg) (F : At K mg "_law_steps" sSteps ["_law_tree"]) : ∀ n, Has P w K mg base n "_law_steps" ["_law_tree"] (spTI K (okB n) lens)
  | 0 => Has.none F fun vs H Q E ⟨_, _, _, _, h, _⟩ => h
  | n + 1 => ok_lsteps1 M F (ok_lsteps M F n)
end
def isBd (lo hi : Int) : PyData → Bool
  | .int i => decide (lo ≤ i) && decide (i ≤ hi)
  | _ => false
theorem call_isiK {X : Cx} {K : PySem.W.Frag} (h : X.K = K) : CallR X (.builtin "isinstance") (rIsi K) := h ▸ call_isi
/-- the name of the kind of data -/
def kdn : PyData → String
  | .none => "NoneType"
  | .bool _ => "bool"
  | .int _ => "int"
  | .str _ => "str"
  | .list _ => "list"
  | .tuple _ => "tuple"
  | .dict _ => "dict"
theorem Dd.kind {K : PySem.W.Frag} {H : Hp} {v : V} {d : PyData} (h : Dd K H v d) : TyX K H v (.type (kdn d)) := by
  cases h with
  | non => exact .base .non
  | bl b => exact .base (.bl b)
  | int i => exact .base (.int i)
  | str x => exact .base (.str x)
  | lst q r =>
    rcases q with (q | ⟨o, q⟩) | ⟨o, its, n, q, c, _⟩
    · exact .base (.lst q)
    · exact .base (.frz q)
    · exact .kList q c
  | tup q r =>
    rcases q with (q | ⟨o, q⟩) | ⟨o, its, n, q, c, _⟩
    · exact .base (.tup q)
    · exact .fTuple q
    · exact .kTuple q c
  | dct q e r => exact .base (.dK q)
section
variable {P : Program} {w : World} {K : PySem.W.Frag} {mg : Str → Option Value} {base : Heap}
/-! ### is_between -/
def spBtD (K : PySem.W.Frag) : Sp := fun vs H Q _ => ∃ (v : V) (d : PyData) (lo hi : Int), vs = [v, .int lo, .int hi] ∧ Dd K H v d ∧ Q (.bl (isBd lo hi d)) H
theorem ok_btD (M : Bl mg) (F : At K mg "is_between" sIs_between ["value", "low", "high"]) {k : Nat} : Has P w K mg base (k + 1) "is_between" ["value", "low", "high"] (spBtD K) := by
  refine Has.by F scIs_between (fun vs H Q E h => ?_) (fun f cdv A out s H vs Q E hg hr h => ?_)
  · obtain ⟨_, _, _, _, rfl, _⟩ := h
    rfl
  obtain ⟨v, d, lo, hi, rfl, dd, q⟩ := h
  refine ⟨_, (pss_one (ps_ret (pe_and (pe_callB call_isi (by rfl) M.isinstance_ (by decide +kernel) (pa_cons (pv 0) (pa_cons (pe_bltn (v := .ty "int") (by rfl) M.int_ (by decide +kernel) rfl) pa_nil))) (pe_and (pe_not (pe_callB call_isi (by rfl) M.isinstance_ (by decide +kernel) (pa_cons (pv 0) (pa_cons (pe_bltn (v := .ty "bool") (by rfl) M.bool_ (by decide +kernel) rfl) pa_nil)))) (pe_one (pe_chain op_le op_le (pv 1) (pv 0) (pv 2))))))), ?_⟩
  have ty := Dd.kind dd
  cases dd with
  | int v =>
    refine ⟨_, rfl, _, _, _, _, true, rfl, .ty _, (show TyX K H _ (.type "int") from ty), kit_ty (by decide +kernel), _, rfl, iteT ?_⟩
    refine ⟨_, rfl, _, _, _, _, false, rfl, .ty _, (show TyX K H _ (.type "int") from ty), kit_ty (by decide +kernel), _, rfl, _, rfl, iteT ?_⟩
    refine ⟨_, rfl, _, rfl, lo, v, rfl, rfl, _, rfl, ite2 (fun c => ?_) (fun c => ?_)⟩
    · have c' : decide (lo ≤ v) = true := c
      have q' : Q (.bl (decide (lo ≤ v) && decide (v ≤ hi))) H := q
      rw [c', Bool.true_and] at q'
      exact ⟨_, rfl, v, hi, rfl, rfl, q'⟩
    · have c' : decide (lo ≤ v) = false := Bool.eq_false_iff.mpr c
      have q' : Q (.bl (decide (lo ≤ v) && decide (v ≤ hi))) H := q
      rw [c', Bool.false_and] at q'
      exact q'
  | bl b =>
    refine ⟨_, rfl, _, _, _, _, true, rfl, .ty _, (show TyX K H _ (.type "bool") from ty), kit_ty (by decide +kernel), _, rfl, iteT ?_⟩
    exact ⟨_, rfl, _, _, _, _, true, rfl, .ty _, (show TyX K H _ (.type "bool") from ty), kit_ty (by decide +kernel), _, rfl, _, rfl, iteF q⟩
  | non => exact ⟨_, rfl, _, _, _, _, false, rfl, .ty _, (show TyX K H _ (.type "NoneType") from ty), kit_ty (by decide +kernel), _, rfl, iteF q⟩
  | str x => exact ⟨_, rfl, _, _, _, _, false, rfl, .ty _, (show TyX K H _ (.type "str") from ty), kit_ty (by decide +kernel), _, rfl, iteF q⟩
  | lst a r => exact ⟨_, rfl, _, _, _, _, false, rfl, .ty _, (show TyX K H _ (.type "list") from ty), kit_ty (by decide +kernel), _, rfl, iteF q⟩
  | tup a r => exact ⟨_, rfl, _, _, _, _, false, rfl, .ty _, (show TyX K H _ (.type "tuple") from ty), kit_ty (by decide +kernel), _, rfl, iteF q⟩
  | dct a e r => exact ⟨_, rfl, _, _, _, _, false, rfl, .ty _, (show TyX K H _ (.type "dict") from ty), kit_ty (by decide +kernel), _, rfl, iteF q⟩
end
section
variable {P : Program} {w : World} {K : PySem.W.Frag} {mg : Str → Option Value} {base : Heap}
def spPlace (K : PySem.W.Frag) (n : Nat) : Sp := fun vs H Q _ => ∃ (v : V) (b : List Tr) (st : Int), vs = [v, .int st] ∧ BodyAt K H b v ∧ okB (n + 1) b ∧ 0 ≤ st ∧ st < lens b ∧
  ∀ (i : Nat) (t : Tr) (r : Int) p H', b[i]? = some t → 0 ≤ r → r < t.len → st = lens (b.take i) + r → Same H H' → H' p = some (.tup [.int (i : Nat), .int r]) → Q (.ref p) H'
theorem ok_place (M : Bl mg) (F : At K mg "place" sPlace ["program", "step"]) {n k : Nat} (h : Has P w K mg base k "length" ["instruction"] (spII K (fun t => okB (n + 1) [t]) Tr.len)) : Has P w K mg base (k + 1) "place" ["program", "step"] (spPlace K n) := by
  obtain ⟨_, _, cLength⟩ := h
  refine Has.by F scPlace (fun vs H Q E h => ?_) (fun f cdv A out s H vs Q E hg hr h => ?_)
  · obtain ⟨_, _, _, rfl, _⟩ := h
    rfl
  obtain ⟨v, b, st, rfl, ⟨c, us, rfl, sq, r⟩, ok, s0, s1, q⟩ := h
  refine ⟨_, (pss_cons (ps_set (i := 2) scPlace.nd rfl (.inl rfl) pe_int)
  (pss_cons (ps_set (i := 3) scPlace.nd rfl (.inl rfl) (pv 1))
  (pss_cons (ps_while PassesOwn.never (pt_cmpR op_ge (pv 3) (pe_cal cLength hg hr (by rfl) (pa_cons (pe_ix ix_tup (pv 0) (pv 2) (fun _ _ => rfl)) pa_nil)) (nomark _))
    (pss_cons (ps_aug (i := 3) scPlace.nd rfl (.inl rfl) (pe_cal cLength hg hr (by rfl) (pa_cons (pe_ix ix_tup (pv 0) (pv 2) (fun _ _ => rfl)) pa_nil)) ip_sub)
  (pss_one (ps_aug (i := 2) scPlace.nd rfl (.inl rfl) pe_int ip_add))))
  (pss_one (ps_ret (pe_tup (pa_cons (pv 2) (pa_cons (pv 3) pa_nil)))))))), ?_⟩
  refine ⟨_, rfl, ?_⟩
  refine ⟨fun m σ H' => ∃ i : Nat, σ = [some (.ref c), some (.int st), some (.int (i : Nat)), some (.int (st - lens (b.take i)))] ∧ Same H H' ∧ lens (b.take i) ≤ st ∧ m = b.length - i, ⟨_, 0, ?_, Same.refl H, s0, rfl⟩, ?_⟩
  · show _ = [_, _, _, some (V.int (st - 0))]
    rw [Int.sub_zero]
    rfl
  rintro m σ H2 ⟨i, rfl, s2, hle, rfl⟩
  have il : i < b.length := by
    by_cases g : i < b.length
    · exact g
    · rw [List.take_of_length_le (by omega)] at hle
      omega
  have ul := r.length
  obtain ⟨x, hx⟩ : ∃ x, us[i]? = some x := ⟨us[i]'(by omega), List.getElem?_eq_getElem (by omega)⟩
  obtain ⟨t, ht, hT⟩ := r.get hx
  have okt : okB (n + 1) [t] := ⟨by rw [wfs, wfs]; exact ⟨wfs_get ok.1 ht, trivial⟩, by show 1 ≤ 1000; decide⟩
  have sqk := (Kt.same s2).sq sq
  refine ⟨_, rfl, _, rfl, _, rfl, c, us, (i : Nat), x, rfl, rfl, sqk, atI_nat hx, x, t, rfl, TrAt.kt (Kt.same s2) t x hT, okt, fun H3 s3 => ?_⟩
  refine ⟨_, _, rfl, rfl, _, rfl, ite2 (fun cc => ?_) (fun cc => ?_)⟩
  · have e : t.len ≤ st - lens (b.take i) := of_decide_eq_true cc
    refine ⟨fun σ' H' => σ' = [some (.ref c), some (.int st), some (.int ((i + 1 : Nat) : Int)), some (.int (st - lens (b.take (i + 1))))] ∧ Same H H', ?_, ?_⟩
    · rintro σ' H' ⟨rfl, s'⟩
      exact ⟨b.length - (i + 1), by omega, i + 1, rfl, s', by rw [lens_nextL ht]; omega, rfl⟩
    · refine ⟨_, rfl, _, rfl, _, rfl, c, us, (i : Nat), x, rfl, rfl, (Kt.same s3).sq sqk, atI_nat hx, x, t, rfl, TrAt.kt (Kt.same (s2.trans s3)) t x hT, okt, fun H4 s4 => ?_⟩
      refine ⟨_, _, rfl, rfl, _, rfl, _, _, rfl, rfl, ?_, (s2.trans s3).trans s4⟩
      rw [lens_nextL ht, ← Int.sub_sub]
      rfl
  · have e : ¬ t.len ≤ st - lens (b.take i) := of_decide_eq_false (Bool.eq_false_iff.mpr cc)
    refine ⟨_, rfl, _, rfl, (by show 2 ≤ sizeLine; decide), fun p np => ?_⟩
    exact q i t (st - lens (b.take i)) p _ ht (by omega) (by omega) (by omega) ((s2.trans s3).trans (same_new np)) upd_same

def spLoc (K : PySem.W.Frag) (n : Nat) : Sp := fun vs H Q _ => ∃ (v : V) (b : List Tr) (st : Int), vs = [v, .int st] ∧ BodyAt K H b v ∧ okB (n + 1) b ∧ 0 ≤ st ∧ st < lens b ∧
  ∀ (ps : List Int) (z : Str) (as : List Int) p pa v' H', Same H H' → H' p = some (.tup [.ref pa, v']) → SqT K H' pa (ps.map V.int) → PT b ps (.op z as) 0 st → TrAt K H' (.op z as) v' → ps.length ≤ 100 → Q (.ref p) H'
/-- a step of the program is located, anything else refused -/
def spLocE (K : PySem.W.Frag) (C : Addr) (n : Nat) : Sp := fun vs H Q E => ∃ (v : V) (b : List Tr) (x : V) (dx : PyData), vs = [v, x] ∧ BodyAt K H b v ∧ okB (n + 1) b ∧ Dd K H x dx ∧
  (∀ st : Int, dx = .int st → 0 ≤ st → st < lens b → ∀ (ps : List Int) (z : Str) (as : List Int) p pa v' H', Same H H' → H' p = some (.tup [.ref pa, v']) → SqT K H' pa (ps.map V.int) → PT b ps (.op z as) 0 st → TrAt K H' (.op z as) v' → ps.length ≤ 100 → Q (.ref p) H') ∧
  (isBd 0 (lens b - 1) dx = false → ∀ d H', Same H H' → H d = none → H' d = some (.xd [("moment", x)]) → E (.ref C) (some d) H')
theorem okB_up {n : Nat} {b : List Tr} (h : okB n b) : okB (n + 1) b := by
  cases n with
  | zero => exact h.elim
  | succ n => exact ⟨wfs_up h.1, h.2⟩
theorem okB_ups {b : List Tr} {n : Nat} : ∀ {m : Nat}, n ≤ m → okB n b → okB m b
  | 0, h, o => by
    obtain rfl : n = 0 := by omega
    exact o
  | m + 1, h, o => by
    by_cases e : n = m + 1
    · subst e
      exact o
    · exact okB_up (okB_ups (m := m) (by omega) o)

theorem ok_locE (M : Bl mg) (F : At K mg "locate" sLocate ["program", "step"]) {n k : Nat} {C fI : Addr} (T : ErrTxt P K mg "BadMoment" "moment" C fI) (hn : n ≤ 6) (h1 : Has P w K mg base k "step_count" ["program"] (spTI K (okB (n + 1)) lens)) (h2 : Has P w K mg base k "is_between" ["value", "low", "high"] (spBtD K)) (h3 : Has P w K mg base k "place" ["program", "step"] (spPlace K n)) :
    HasE P w K mg base (k + 1) "locate" ["program", "step"] (spLocE K C n) := by
  obtain ⟨_, _, cStep_count⟩ := h1
  obtain ⟨_, _, cIs_between⟩ := h2
  obtain ⟨_, _, cPlace⟩ := h3
  refine HasE.by F scLocate (fun vs H Q E h => ?_) (fun f cdv A out s H vs Q E hg hr h => ?_)
  · obtain ⟨_, _, _, _, rfl, _⟩ := h
    rfl
  obtain ⟨v, b, x, dx, rfl, hB, ok, dd, yes, no⟩ := h
  refine ⟨_, (pss_cons (ps_if (pt_not (pt_val (pe_cal cIs_between hg hr (by rfl) (pa_cons (pv 1) (pa_cons pe_int (pa_cons (pe_op op_sub (pe_cal cStep_count hg hr (by rfl) (pa_cons (pv 0) pa_nil)) pe_int) pa_nil))))))
    (pss_one (ps_raiseErr rfl T hr (takes_of rfl rfl rfl rfl) (pa_cons (pv 1) pa_nil) (by rfl)))
    pss_nil)
  (PSs.nox (pss_cons (ps_asg (pe_cal cPlace hg hr (by rfl) (pa_cons (pv 0) (pa_cons (pv 1) pa_nil))) (pg_tup rfl (pgs_cons (pg_name (i := 2) scLocate.nd rfl (.inl rfl)) (pgs_cons (pg_name (i := 3) scLocate.nd rfl (.inl rfl)) pgs_nil))))
  (pss_cons (ps_set (i := 4) scLocate.nd rfl (.inl rfl) (pe_lst (pa_cons (pv 2) pa_nil)))
  (pss_cons (ps_set (i := 5) scLocate.nd rfl (.inl rfl) (pe_ix ix_tup (pv 0) (pv 2) (fun _ _ => rfl)))
  (pss_cons (ps_while PassesOwn.never (pt_cmpR op_eq (pe_ix ix_tup (pv 5) pe_int (fun _ _ => rfl)) pe_str (nomark _))
    (pss_cons (ps_set (i := 6) scLocate.nd rfl (.inl rfl) (pe_ix ix_tup (pv 5) pe_int (fun _ _ => rfl)))
  (pss_cons (ps_asg (pe_callB call_divmodW (by rfl) M.divmod_ (by decide +kernel) (pa_cons (pv 3) (pa_cons (pe_cal cStep_count hg hr (by rfl) (pa_cons (pv 6) pa_nil)) pa_nil))) (pg_tup rfl (pgs_cons (pg_name (i := 7) scLocate.nd rfl (.inl rfl)) (pgs_cons (pg_name (i := 3) scLocate.nd rfl (.inl rfl)) pgs_nil))))
  (pss_cons (ps_asg (pe_cal cPlace hg hr (by rfl) (pa_cons (pv 6) (pa_cons (pv 3) pa_nil))) (pg_tup rfl (pgs_cons (pg_name (i := 2) scLocate.nd rfl (.inl rfl)) (pgs_cons (pg_name (i := 3) scLocate.nd rfl (.inl rfl)) pgs_nil))))
  (pss_cons (ps_expr (pe_bm PySem.F.plainAttrs_list PySem.F.slot_list_extend PySem.F.type_list_extend mt_extend (pv 4) (pa_cons (pe_lst (pa_cons (pv 7) (pa_cons (pv 2) pa_nil))) pa_nil)))
  (pss_one (ps_set (i := 5) scLocate.nd rfl (.inl rfl) (pe_ix ix_tup (pv 6) (pv 2) (fun _ _ => rfl)))))))))
  (pss_one (ps_ret (pe_tup (pa_cons (pe_callTy call_tuple_of (by rfl) M.tuple_ (by decide +kernel) (pa_cons (pv 4) pa_nil)) (pa_cons (pv 5) pa_nil))))))))))), ?_⟩
  refine ⟨_, rfl, _, rfl, v, b, rfl, hB, ok, fun H1 s1' => ?_⟩
  refine ⟨_, _, rfl, rfl, x, dx, 0, lens b - 1, rfl, dd.same s1', ?_⟩
  cases hb : isBd 0 (lens b - 1) dx with
  | false =>
    refine ⟨_, rfl, iteT ?_⟩
    exact ⟨_, rfl, x, rfl, fun d nd => no hb d _ (s1'.trans (same_new nd)) (s1'.free nd) upd_same⟩
  | true =>
  obtain ⟨st, rfl, s0, s1⟩ : ∃ st : Int, dx = .int st ∧ 0 ≤ st ∧ st < lens b := by
    cases dx <;> first | exact absurd hb Bool.false_ne_true | skip
    rename_i st
    have hb' : (decide (0 ≤ st) && decide (st ≤ lens b - 1)) = true := hb
    rw [Bool.and_eq_true] at hb'
    have h1 := of_decide_eq_true hb'.1
    have h2 := of_decide_eq_true hb'.2
    exact ⟨st, rfl, h1, by omega⟩
  have q := yes st rfl s0 s1
  obtain rfl : x = .int st := by
    cases dd
    rfl
  refine ⟨_, rfl, iteF ?_⟩
  -- its place
  refine ⟨_, rfl, _, rfl, v, b, st, rfl, hB.kt (Kt.same s1'), ok, s0, s1, fun i t r p H2 ht r0 r1 er s2 hp => ?_⟩
  refine ⟨p, _, rfl, SqT.of hp, rfl, _, _, rfl, _, _, rfl, rfl, ?_⟩
  refine ⟨_, rfl, (by show 1 ≤ sizeLine; decide), fun pa npa => ?_⟩
  have s3 := same_new (o := .lst [V.int (i : Nat)]) npa
  have s13 : Same H _ := (s1'.trans s2).trans s3
  have nHpa : H pa = none := (s1'.trans s2).free npa
  obtain ⟨c, us, rfl, sq, tr⟩ := hB
  have ul := tr.length
  have il := (List.getElem?_eq_some_iff.mp ht).1
  obtain ⟨x, hx⟩ : ∃ x, us[i]? = some x := ⟨us[i]'(by omega), List.getElem?_eq_getElem (by omega)⟩
  obtain ⟨t', ht', hT⟩ := tr.get hx
  rw [ht] at ht'
  cases ht'
  refine ⟨_, rfl, _, rfl, c, us, (i : Nat), x, rfl, rfl, (Kt.same s13).sq sq, atI_nat hx, ?_⟩
  have pt0 : PT b [(i : Int)] t r st := by
    rw [er]
    exact .here ht
  refine ⟨fun m σ H' => ∃ (ps : List Int) (t : Tr) (x : V) (r : Int) (y2 y6 y7 : Option V), σ = [some (.ref c), some (.int st), y2, some (.int r), some (.ref pa), some x, y6, y7] ∧ Same H H' ∧ H' pa = some (.lst (ps.map V.int)) ∧ TrAt K H' t x ∧ PT b ps t r st ∧ 0 ≤ r ∧ r < t.len ∧ okB (m + 1) [t] ∧ m ≤ n ∧ ps.length + 2 * m ≤ 20,
    ⟨n, [(i : Int)], t, x, r, _, _, _, rfl, s13, upd_same, TrAt.kt (Kt.same s13) _ _ hT, pt0, r0, r1, ⟨by rw [wfs, wfs]; exact ⟨wfs_get ok.1 ht, trivial⟩, by show 1 ≤ 1000; decide⟩, Nat.le_refl _, by show 1 + 2 * n ≤ 20; omega⟩, ?_⟩
  rintro m σ H4 ⟨ps, t, x, r, y2, y6, y7, rfl, s4, h4, hT4, pt, r0, r1, okt, hm, hl⟩
  cases t with
  | op z as =>
    have hT0 := hT4
    rw [TrAt] at hT4
    obtain ⟨a, rfl, sq5⟩ := hT4
    refine ⟨_, rfl, a, _, 0, .str z, rfl, rfl, sq5, at0, rfl, _, rfl, iteN (fun e => okB_op (i := 0) okt rfl (V.str.inj e)) ?_⟩
    refine ⟨_, rfl, pa, _, rfl, .inl ⟨SqL.of h4, fun tp ntp => ?_⟩⟩
    have s5 := same_new (o := .tup (ps.map V.int)) ntp
    refine ⟨_, rfl, (by show 2 ≤ sizeLine; decide), fun p6 np6 => ?_⟩
    have s6 := same_new (o := .tup [V.ref tp, V.ref a]) np6
    rw [Tr.len] at r1
    have e0 : r = 0 := by omega
    subst e0
    exact q ps z as p6 tp (.ref a) _ ((s4.trans s5).trans s6) upd_same ((Kt.same s6).sq (SqT.of upd_same)) pt (TrAt.kt (Kt.same (s5.trans s6)) _ _ hT0) (by omega)
  | loop kk b' =>
    rw [TrAt] at hT4
    obtain ⟨a, g, ws, rfl, sq5, sq6, r2⟩ := hT4
    obtain ⟨c0, c1, ok2⟩ := okB_loop (i := 0) okt rfl
    obtain ⟨m', rfl⟩ : ∃ m', m = m' + 1 := by
      cases m with
      | zero => exact ok2.elim
      | succ m' => exact ⟨m', rfl⟩
    have ok3 : okB (n + 1) b' := okB_ups (by omega) ok2
    have hB' : BodyAt K H4 b' (.ref g) := ⟨g, ws, rfl, sq6, r2⟩
    rw [Tr.len] at r1
    have lp : 0 < lens b' := by
      have h0 := (lens_bd b' m' ok2.1).1
      by_cases z : lens b' = 0
      · rw [z, Int.mul_zero] at r1
        omega
      · omega
    have q0 := Int.emod_nonneg r (show lens b' ≠ 0 by omega)
    have q1 := Int.emod_lt_of_pos r lp
    have d0 : 0 ≤ r / lens b' := Int.ediv_nonneg r0 (by omega)
    have d1 : r / lens b' < kk := (Int.ediv_lt_iff_lt_mul lp).mpr r1
    refine ⟨_, rfl, a, _, 0, .str "loop", rfl, rfl, sq5, rfl, rfl, _, rfl, iteP rfl ?_⟩
    refine ⟨fun σ' H' => ∃ (ps : List Int) (t : Tr) (x : V) (r : Int) (y2 y6 y7 : Option V), σ' = [some (.ref c), some (.int st), y2, some (.int r), some (.ref pa), some x, y6, y7] ∧ Same H H' ∧ H' pa = some (.lst (ps.map V.int)) ∧ TrAt K H' t x ∧ PT b ps t r st ∧ 0 ≤ r ∧ r < t.len ∧ okB (m' + 1) [t] ∧ m' ≤ n ∧ ps.length + 2 * m' ≤ 20, fun σ' H' h => ⟨m', by omega, h⟩, ?_⟩
    refine ⟨_, rfl, a, _, 2, .ref g, rfl, rfl, sq5, rfl, ?_⟩
    refine ⟨_, rfl, _, rfl, _, b', rfl, hB', ok3, fun H5 s5 => ?_⟩
    refine ⟨r, lens b', rfl, div_ok (k := 1000) lp (lens_log ok2 (by omega)) (by decide) (by decide), fun p6 np6 => ?_⟩
    have s6 := same_new (o := .tup [.int (r / lens b'), .int (r % lens b')]) np6
    refine ⟨p6, _, rfl, SqT.of upd_same, rfl, _, _, rfl, _, _, rfl, rfl, ?_⟩
    have s56 := s5.trans s6
    refine ⟨_, rfl, _, rfl, _, b', r % lens b', rfl, hB'.kt (Kt.same s56), ok3, q0, q1, fun j t7 r7 p7 H7 ht7 r70 r71 er7 s7 hp7 => ?_⟩
    refine ⟨p7, _, rfl, SqT.of hp7, rfl, _, _, rfl, _, _, rfl, rfl, ?_⟩
    have s57 := s56.trans s7
    have h7 := s57 _ _ h4
    refine ⟨_, rfl, .inl ⟨rfl, _, SqL.of h7⟩, _, rfl, _, rfl, (by show 2 ≤ sizeLine; decide), fun l8 nl8 => ?_⟩
    have s8 := same_new (o := .lst [V.int (r / lens b'), V.int (j : Nat)]) nl8
    have h8 := s8 _ _ h7
    refine ⟨pa, l8, _, _, rfl, rfl, h8, upd_same, ?_, ?_⟩
    · rw [List.length_map]
      exact small (by show ps.length + 2 ≤ 1000; omega)
    have kt9 : Kt H4 (upd (upd H7 l8 (.lst [V.int (r / lens b'), V.int (j : Nat)])) pa (.lst (ps.map V.int ++ [V.int (r / lens b'), V.int (j : Nat)]))) := (Kt.same (s57.trans s8)).trans (Kt.but But.upd h8)
    have il7 := (List.getElem?_eq_some_iff.mp ht7).1
    have wl := r2.length
    obtain ⟨x7, hx7⟩ : ∃ x, ws[j]? = some x := ⟨ws[j]'(by omega), List.getElem?_eq_getElem (by omega)⟩
    obtain ⟨t7', ht7', hT7⟩ := r2.get hx7
    rw [ht7] at ht7'
    cases ht7'
    refine ⟨_, rfl, _, rfl, g, ws, (j : Nat), x7, rfl, rfl, kt9.sq sq6, atI_nat hx7, ?_⟩
    refine ⟨ps ++ [r / lens b', (j : Int)], t7, x7, r7, _, _, _, rfl, same_upd ((s4.trans s57).trans s8) nHpa, ?_, TrAt.kt kt9 _ _ hT7, pt.deeper rfl d0 d1 ht7 ?_, r70, r71, ⟨by rw [wfs, wfs]; exact ⟨wfs_get ok2.1 ht7, trivial⟩, by show 1 ≤ 1000; decide⟩, by omega, ?_⟩
    · rw [upd_same, List.map_append]
      rfl
    · have := Int.emod_def r (lens b')
      rw [← er7, this, Int.mul_comm (r / lens b')]
      omega
    · rw [List.length_append]
      show ps.length + 2 + 2 * m' ≤ 20
      omega
end

end K07
set_option Elab.async false
set_option linter.all false
set_option maxRecDepth 100000
set_option pp.maxSteps 500
set_option pp.deepTerms.threshold 8
set_option pp.deepTerms false
namespace K07
open PySem PySem.Spec PyProof.Rows L2 Lj
section
variable {X : Cx} {K : PySem.W.Frag}
theorem op_catAK (h : X.K = K) : OpR X (binaryOp .Add) (rCatA K) := h ▸ op_catA
end
section
variable {P : Program} {w : World} {K : PySem.W.Frag} {mg : Str → Option Value} {base : Heap}
/-! ### all paths -/
mutual
theorem Tr.pth_short : ∀ (t : Tr) (n i : Nat), t.wf n → ∀ q ∈ t.pth i, q.1 ≠ [] ∧ q.1.length ≤ 2 * n + 1
  | .op z as, n, i, _, q, m => by
    rw [Tr.pth] at m
    rw [List.mem_singleton.mp m]
    exact ⟨fun z => (by cases z), (by show 1 ≤ _; omega)⟩
  | .loop k b, 0, i, h, q, m => by
    rw [Tr.wf] at h
    exact h.elim
  | .loop k b, n + 1, i, h, q, m => by
    rw [Tr.wf] at h
    rw [Tr.pth] at m
    obtain ⟨xs, m1, m2⟩ := List.mem_flatten.mp m
    obtain ⟨j, _, rfl⟩ := List.mem_map.mp m1
    obtain ⟨q', m3, rfl⟩ := List.mem_map.mp m2
    have := (pths_short b n 0 h.2.2.2 q' m3).2
    refine ⟨fun z => (by cases z), ?_⟩
    show q'.1.length + 1 + 1 ≤ _
    omega
theorem pths_short : ∀ (b : List Tr) (n i : Nat), wfs b n → ∀ q ∈ pths i b, q.1 ≠ [] ∧ q.1.length ≤ 2 * n + 1
  | [], n, i, _, q, m => by
    rw [pths] at m
    cases m
  | t :: r, n, i, h, q, m => by
    rw [wfs] at h
    rw [pths] at m
    rcases List.mem_append.mp m with m | m
    · exact Tr.pth_short t n i h.1 q m
    · exact pths_short r n (i + 1) h.2 q m
end
def spPaths (K : PySem.W.Frag) (d : Nat) : Sp := fun vs H Q _ => ∃ v b, vs = [v] ∧ BodyAt K H b v ∧ okB d b ∧ fines b ∧ (exs b).length ≤ 100000 ∧
  ∀ H' l us, Same H H' → H l = none → H' l = some (.lst us) → PthsAt K H' (pths 0 b) us → Q (.ref l) H'
theorem eqv_nilP (qs : List (List Int × Tr)) : PyData.eqv (.list (qs.map datP)) (.list []) = qs.isEmpty := by
  rw [eqv_nil]
  cases qs <;> rfl
theorem rnds_nil (i : Nat) : ∀ m, rnds i m [] = []
  | 0 => rfl
  | m + 1 => by rw [rnds_succ, rnds_nil i m]; rfl
theorem ok_paths1 (M : Bl mg) (F : At K mg "_law_paths" sPaths ["_law_tree"]) {d k : Nat} (hd : d ≤ 100) (h : Has P w K mg base k "_law_paths" ["_law_tree"] (spPaths K d)) : Has P w K mg base (k + 1) "_law_paths" ["_law_tree"] (spPaths K (d + 1)) := by
  obtain ⟨_, _, cPaths⟩ := h
  refine Has.by F scPaths (fun vs H Q E h => ?_) (fun f cdv A out s H vs Q E hg hr h => ?_)
  · obtain ⟨_, _, rfl, _⟩ := h
    rfl
  obtain ⟨v, b, rfl, ⟨c, us, rfl, sq, r⟩, ok, fin, big, q⟩ := h
  refine ⟨_, (pss_cons (ps_set (i := 1) scPaths.nd rfl (.inl rfl) (pe_lst pa_nil))
  (pss_cons (ps_for PassesOwn.never rfl (pi_enumT (by rfl) M.enumerate_ (pa_cons (pv 0) pa_nil)) (pg_tup rfl (pgs_cons (pg_name (i := 2) scPaths.nd rfl (.inr rfl)) (pgs_cons (pg_name (i := 3) scPaths.nd rfl (.inl rfl)) pgs_nil)))
    (pss_one (ps_if (pt_cmpR op_eq (pe_ix ix_tup (pv 3) pe_int (fun _ _ => rfl)) pe_str (nomark _))
    (pss_cons (ps_set (i := 4) scPaths.nd rfl (.inl rfl) (pe_cal cPaths hg hr (by rfl) (pa_cons (pe_ix ix_tup (pv 3) pe_int (fun _ _ => rfl)) pa_nil)))
  (pss_one (ps_for PassesOwn.never rfl (pi_range1 (by rfl) M.range_ (pa_cons (pe_op op_mul (pe_ix ix_tup (pv 3) pe_int (fun _ _ => rfl)) (pe_callTy call_int1 (by rfl) M.int_ (by decide +kernel) (pa_cons (pe_cmpR (op_neD hr.units) (pv 4) (pe_lst pa_nil) (nomark _)) pa_nil))) pa_nil)) (pg_name (i := 5) scPaths.nd rfl (.inr rfl))
    (pss_one (ps_expr (pe_bm PySem.F.plainAttrs_list PySem.F.slot_list_extend PySem.F.type_list_extend mt_extend (pv 1) (pa_cons (pe_lc (own := [("_law_path", 6), ("_law_one", 7)]) (g := gTup K 2 (gCons (gName 6) (gCons (gName 7) gNil))) (by rfl) scPaths.nd (pi_list (pv 4)) (blkOk_by (own := [("_law_path", 6), ("_law_one", 7)]) (N := ["_law_tree", "_law_found", "_law_index", "_law_item_here", "_law_inner", "_law_turn", "_law_path", "_law_one"]) (sc := defScope sPaths) (by decide +kernel)) (fun _ _ _ _ _ => (pg_tup rfl (pgs_cons (pg_name (i := 6) scPaths.nd rfl (.inl rfl)) (pgs_cons (pg_name (i := 7) scPaths.nd rfl (.inl rfl)) pgs_nil)))) (fun _ _ _ _ _ => pts_nil) (fun _ _ _ _ _ => (pe_tup (pa_cons (pe_op (op_catAK (K := K) rfl) (pe_tup (pa_cons (pv 2) (pa_cons (pv 5) pa_nil))) (pv 6)) (pa_cons (pv 7) pa_nil))))) pa_nil)))))))
    (pss_one (ps_expr (pe_bm PySem.F.plainAttrs_list PySem.F.slot_list_append PySem.F.type_list_append mt_append (pv 1) (pa_cons (pe_tup (pa_cons (pe_tup (pa_cons (pv 2) pa_nil)) (pa_cons (pv 3) pa_nil))) pa_nil)))))))
  (pss_one (ps_ret (pv 1))))), ?_⟩
  refine ⟨Nat.zero_le _, fun fo nfo => ?_⟩
  refine ⟨_, rfl, c, us, rfl, (Kt.same (same_new nfo)).sq sq, ?_⟩
  refine for_it (walk_enumT (K := K) (a := c) (xs := us)) (fun i σ H' => ∃ y2 y3 y4 y5 zs, σ = [some (.ref c), some (.ref fo), y2, y3, y4, y5, none, none] ∧ Same H H' ∧ H' fo = some (.lst zs) ∧ PthsAt K H' (pths 0 (b.take i)) zs) ⟨none, none, none, none, [], rfl, same_new nfo, upd_same, .nil⟩ ?_ ?_ ?_
  · rintro i σ H' _ ⟨_, _, _, _, _, _, h, _⟩
    exact (Kt.same h).sq sq
  · rintro i x σ H2 H2' hi ⟨y2, y3, y4, y5, zs, rfl, s2, h2, t2⟩ ⟨T, x1, x2, rfl, nT, rfl, e1, e2⟩
    cases e1
    obtain ⟨t, ht, hT⟩ := r.get e2
    have sT := same_new (o := .tup [V.int (i : Nat), x2]) nT
    have hT := TrAt.kt (Kt.same (s2.trans sT)) t x2 hT
    have bd := ex_le ht
    have h2 := sT _ _ h2
    have s2 := s2.trans sT
    have t2 := t2.kt (Kt.same sT)
    have zl := t2.length
    rw [pths_len] at zl
    refine ⟨T, _, rfl, SqT.of upd_same, rfl, _, _, rfl, _, _, rfl, rfl, ?_⟩
    generalize upd H2 T (.tup [V.int (i : Nat), x2]) = H3 at hT h2 s2 t2 ⊢
    rw [pths_take b 0 i t ht, Nat.zero_add]
    cases t with
    | op z as =>
      have hT0 := hT
      rw [TrAt] at hT
      obtain ⟨a, rfl, sq3⟩ := hT
      refine ⟨_, rfl, a, _, 0, .str z, rfl, rfl, sq3, at0, rfl, _, rfl, iteN (fun e => okB_op ok ht (V.str.inj e)) ?_⟩
      refine ⟨_, rfl, .inl ⟨rfl, _, SqL.of h2⟩, _, rfl, (by show 1 ≤ sizeLine; decide), fun p4 np4 => ?_⟩
      have s4 := same_new (o := .tup [V.int (i : Nat)]) np4
      refine ⟨_, rfl, (by show 2 ≤ sizeLine; decide), fun p5 np5 => ?_⟩
      have s5 := same_new (o := .tup [V.ref p4, V.ref a]) np5
      have h5 := s5 _ _ (s4 _ _ h2)
      refine ⟨fo, _, _, rfl, rfl, h5, ?_, ?_⟩
      · rw [zl, sizeLine_eq]
        rw [Tr.ex] at bd
        have : [Tr.op z as].length = 1 := rfl
        omega
      · have kt : Kt (upd (upd H3 p4 (.tup [V.int (i : Nat)])) p5 (.tup [V.ref p4, V.ref a])) (upd (upd (upd H3 p4 (.tup [V.int (i : Nat)])) p5 (.tup [V.ref p4, V.ref a])) fo (.lst (zs ++ [.ref p5]))) := Kt.but But.upd h5
        have ktA : Kt H3 _ := (Kt.same (s4.trans s5)).trans kt
        refine ⟨_, _, _, _, _, rfl, same_upd (s2.trans (s4.trans s5)) nfo, upd_same, (t2.kt ktA).append ?_⟩
        rw [Tr.pth]
        exact .cons ⟨p5, p4, _, rfl, kt.sq (SqT.of upd_same), kt.sq (SqT.of (s5 _ _ upd_same)), TrAt.kt ktA _ _ hT0⟩ .nil
    | loop m b' =>
      rw [TrAt] at hT
      obtain ⟨a, g, ws, rfl, sq3, sq4, r2⟩ := hT
      obtain ⟨c0, c1, ok2⟩ := okB_loop ok ht
      have fin2 := fines_get fin ht
      rw [Tr.fine] at fin2
      have ops2 := pths_ops b' 0 fin2.2
      have wf2 : ∃ n', d = n' + 1 ∧ wfs b' n' := by
        cases d with
        | zero => exact ok2.elim
        | succ n' => exact ⟨n', rfl, ok2.1⟩
      obtain ⟨n', rfl, wf2⟩ := wf2
      have sho := pths_short b' n' 0 wf2
      have pl := pths_len b' 0
      have bd2 : m.toNat * (exs b').length ≤ 100000 := by
        rw [Tr.ex, flat_len] at bd
        omega
      refine ⟨_, rfl, a, _, 0, .str "loop", rfl, rfl, sq3, rfl, rfl, _, rfl, iteP rfl ?_⟩
      refine ⟨_, rfl, a, _, 2, .ref g, rfl, rfl, sq3, rfl, _, b', rfl, ⟨g, ws, rfl, sq4, r2⟩, ok2, fin2.2, fin2.1, fun H4 l2 us2 s3 n3 h3 t3 => ?_⟩
      have nl2 : fo ≠ l2 := ne_of_none h2 n3
      refine ⟨_, rfl, a, _, 1, .int m, rfl, rfl, (Kt.same s3).sq sq3, rfl, _, rfl, Nat.zero_le _, fun e ne => ?_⟩
      have se : Same H4 (upd H4 e (.lst [])) := same_new ne
      refine ⟨.list ((pths 0 b').map datP), .list [], .lst (SqL.of (se _ _ h3)) (OpsP.dp ops2 (t3.kt (Kt.same se))), .lst (SqL.of upd_same) .nil, ops2.shaped, shaped_nil, .inr ⟨_, rfl, m, _, rfl, rfl, .inl ⟨by omega, by omega⟩, ?_⟩⟩
      obtain ⟨n, hn, hf, hl⟩ : ∃ n : Nat, m * (if (!PyData.eqv (.list ((pths 0 b').map datP)) (.list [])) = true then 1 else 0) = (n : Int) ∧ rnds i n (pths 0 b') = rnds i m.toNat (pths 0 b') ∧ n * (pths 0 b').length ≤ 100000 ∧ n ≤ 100000 := by
        rw [eqv_nilP]
        cases hx : pths 0 b' with
        | nil =>
          refine ⟨0, ?_, ?_, by decide, by decide⟩
          · show m * 0 = _
            rw [Int.mul_zero]
            rfl
          · rw [rnds_nil, rnds_nil]
        | cons y ys =>
          rw [← pl, hx] at bd2
          refine ⟨m.toNat, ?_, rfl, bd2, ?_⟩
          · show m * 1 = _
            omega
          · rw [List.length_cons] at bd2
            exact Nat.le_trans (Nat.le_mul_of_pos_right _ (Nat.succ_pos _)) bd2
      refine ⟨(n : Int), ?_, by omega, by omega, ?_⟩
      · show [V.int (m * _)] = _
        rw [hn]
      rw [show ((n : Int)).toNat = n from rfl]
      have ul := t3.length
      have bd4 : zs.length + n * (pths 0 b').length ≤ 100000 := by
        have e1 := congrArg List.length hf
        rw [rnds_len, rnds_len] at e1
        rw [Tr.ex, flat_len, ← pl] at bd
        omega
      have e0 := se _ _ (s3 _ _ h2)
      have e3 := se _ _ h3
      have t20 := t2.kt (Kt.same (s3.trans se))
      have t30 := t3.kt (Kt.same se)
      have s30 := (s2.trans s3).trans se
      clear hn
      generalize upd H4 e (.lst []) = H5 at e0 e3 t20 t30 s30
      refine for_range (lo := 0) (n := n) (fun j σ H' => ∃ y5 xs, σ = [some (.ref c), some (.ref fo), some (.int (i : Nat)), some (.ref a), some (.ref l2), y5, none, none] ∧ Same H H' ∧ H' fo = some (.lst (zs ++ xs)) ∧ H' l2 = some (.lst us2) ∧ PthsAt K H' (pths 0 (b.take i)) zs ∧ PthsAt K H' (pths 0 b') us2 ∧ PthsAt K H' (rnds i j (pths 0 b')) xs)
        ⟨_, [], rfl, s30, by rw [List.append_nil]; exact e0, e3, t20, t30, .nil⟩ ?_ ?_
      · rintro j σ H6 hj ⟨y5, xs, rfl, s6, h6, h7, t6, t7, t8⟩
        have xl := t8.length
        rw [rnds_len] at xl
        rw [show (0 : Int) + (j : Nat) = (j : Nat) from Int.zero_add _]
        have jb : (j + 1) * (pths 0 b').length ≤ n * (pths 0 b').length := Nat.mul_le_mul_right _ hj
        rw [Nat.succ_mul] at jb
        refine ⟨_, rfl, .inl ⟨rfl, _, SqL.of h6⟩, _, rfl, l2, rfl, ⟨_, SqL.of h7⟩, fun D nD => ?_⟩
        have nDf : D ≠ fo := (ne_of_none h6 nD).symm
        refine lc_list (xs := us2) (fun k H' => ∃ zz, H' D = some (.lst zz) ∧ Same H6 H' ∧ PthsAt K H' (((pths 0 b').take k).map fun q => ((i : Int) :: (j : Int) :: q.1, q.2)) zz) ⟨[], upd_same, same_new nD, .nil⟩ (fun k H' _ ⟨_, _, h, _⟩ => SqL.of (h _ _ h7)) ?_ ?_
        · rintro k x H8 hx ⟨zz, g1, g2, g3⟩
          obtain ⟨q0, hq0, pa0⟩ := t7.get hx
          obtain ⟨a1, pa, y, rfl, sa, sp, sy⟩ := pa0.kt (Kt.same g2)
          obtain ⟨ne0, le0⟩ := sho q0 (List.mem_of_getElem? hq0)
          have kl : k < us2.length := (List.getElem?_eq_some_iff.mp hx).1
          have zzl := g3.length
          rw [List.length_map, List.length_take] at zzl
          refine ⟨a1, _, rfl, sa, rfl, _, _, rfl, _, _, rfl, rfl, ?_⟩
          refine ⟨rfl, ?_⟩
          refine ⟨_, rfl, _, rfl, (by show 2 ≤ sizeLine; decide), fun p1 np1 => ?_⟩
          have sp1 := same_new (o := .tup [V.int (i : Nat), V.int (j : Nat)]) np1
          refine ⟨_, rfl, p1, pa, _, _, rfl, rfl, SqT.of upd_same, (Kt.same sp1).sq sp, ?_, (fun z => by cases z), fun _ z => ?_, fun _ _ p2 np2 => ?_⟩
          · rw [List.length_map]
            exact small (by show 2 + q0.1.length ≤ 1000; omega)
          · exact absurd (List.map_eq_nil_iff.mp z) ne0
          have sp2 := same_new (o := .tup ([V.int (i : Nat), V.int (j : Nat)] ++ q0.1.map V.int)) np2
          refine ⟨_, rfl, (by show 2 ≤ sizeLine; decide), fun p3 np3 => ?_⟩
          have sp3 := same_new (o := .tup [V.ref p2, y]) np3
          have s123 := (sp1.trans sp2).trans sp3
          have g1' := s123 _ _ g1
          refine ⟨zz, g1', ?_, zz ++ [.ref p3], upd_same, same_upd (g2.trans s123) nD, ?_⟩
          · rw [zzl, sizeLine_eq]
            omega
          · have kt := Kt.but (But.upd (o := .lst (zz ++ [.ref p3]))) g1'
            rw [List.take_add_one, hq0, List.map_append]
            refine (g3.kt ((Kt.same s123).trans kt)).append (.cons ⟨p3, p2, y, rfl, kt.sq (SqT.of upd_same), kt.sq ((Kt.same sp3).sq (SqT.of upd_same)), TrAt.kt ((Kt.same s123).trans kt) _ _ sy⟩ .nil)
        · rintro H8 ⟨zz, g1, g2, g3⟩
          rw [ul, List.take_length] at g3
          have zzl := g3.length
          rw [List.length_map] at zzl
          have h68 := g2 _ _ h6
          refine ⟨fo, D, _, zz, rfl, rfl, h68, g1, ?_, ?_⟩
          · rw [List.length_append, xl, zzl, sizeLine_eq]
            omega
          · have kt : Kt H8 (upd H8 fo (.lst ((zs ++ xs) ++ zz))) := Kt.but But.upd h68
            have ktA := (Kt.same g2).trans kt
            refine ⟨_, xs ++ zz, rfl, same_upd (s6.trans g2) nfo, by rw [upd_same, List.append_assoc], ?_, t6.kt ktA, t7.kt ktA, ?_⟩
            · rw [upd_ne nl2.symm]
              exact g2 _ _ h7
            · rw [rnds_succ]
              exact (t8.kt ktA).append (g3.kt kt)
      · rintro σ H6 ⟨y5, xs, rfl, s6, h6, h7, t6, t7, t8⟩
        refine ⟨_, _, _, _, _, rfl, s6, h6, t6.append ?_⟩
        rw [Tr.pth]
        rw [hf] at t8
        exact t8
  · rintro σ H2 ⟨y2, y3, y4, y5, zs, rfl, s2, h2, t2⟩
    rw [r.length, take_all] at t2
    exact ⟨_, rfl, q H2 fo zs s2 nfo h2 t2⟩
theorem ok_paths (M : Bl mg) (F : At K mg "_law_paths" sPaths ["_law_tree"]) : ∀ d, d ≤ 100 → Has P w K mg base d "_law_paths" ["_law_tree"] (spPaths K d)
  | 0, _ => Has.none F fun vs H Q E ⟨_, _, _, _, h, _⟩ => h
  | d + 1, h => ok_paths1 M F (by omega) (ok_paths M F d (by omega))
end
end K07
set_option Elab.async false
set_option linter.all false
set_option maxRecDepth 100000
set_option pp.maxSteps 500
set_option pp.deepTerms.threshold 8
set_option pp.deepTerms false
namespace K07
open PySem PySem.Spec PyProof.Rows L2 Lj
section
variable {P : Program} {w : World} {K : PySem.W.Frag} {mg : Str → Option Value} {base : Heap}
/-! ### refused -/
/-- the errors that the law names -/
structure Errs (P : Program) (K : PySem.W.Frag) (mg : Str → Option Value) (CJ CM fM C0 C1 C2 C3 C4 : Addr) : Prop where
  T : ErrTxt P K mg "BadMoment" "moment" CM fM
  gJ : mg "JournalError" = some (.ref CJ)
  g0 : mg "BadProgram" = some (.ref C0)
  g1 : mg "BadRegister" = some (.ref C1)
  g2 : mg "BadState" = some (.ref C2)
  g3 : mg "BadText" = some (.ref C3)
  g4 : mg "NoStep" = some (.ref C4)
  ex : PySem.W.exmOne K (.ref CM) (.ref CJ) = some true
  xc : ExcC K CM
  kV : PySem.W.kitOne K (.ref CM) (.type "ValueError") = some true
  kO : PySem.W.kitAny K (.ref CM) [.ref C0, .ref C1, .ref C2, .ref C3, .ref C4] = some false
  mV : mg "ValueError" = none
theorem kit_self (K : PySem.W.Frag) (C : Addr) : PySem.W.kitOne K (.ref C) (.ref C) = some true := by
  unfold PySem.W.kitOne
  rw [if_pos (beq_self_eq_true _)]
def spRef (K : PySem.W.Frag) (n : Nat) : Sp := fun vs H Q _ => ∃ (v : V) (b : List Tr) (x : V) (dx : PyData), vs = [v, x] ∧ BodyAt K H b v ∧ okB (n + 1) b ∧ Dd K H x dx ∧ dx.showable = true ∧ dx.depth ≤ 64 ∧ dx.shown.length ≤ sizeLine ∧ isBd 0 (lens b - 1) dx = false ∧
  ∀ H', Same H H' → Q (.bl true) H'
theorem ok_refused (M : Bl mg) (F : At K mg "_law_refused" sRefused ["_law_tree", "_law_value"]) {n k : Nat} {CJ CM fM C0 C1 C2 C3 C4 : Addr} (R : Errs P K mg CJ CM fM C0 C1 C2 C3 C4) (h : HasE P w K mg base k "locate" ["program", "step"] (spLocE K CM n)) :
    Has P w K mg base (k + 1) "_law_refused" ["_law_tree", "_law_value"] (spRef K n) := by
  obtain ⟨_, _, cLocate⟩ := h
  refine Has.by F scRefused (fun vs H Q E h => ?_) (fun f cdv A out s H vs Q E hg hr h => ?_)
  · obtain ⟨_, _, _, _, rfl, _⟩ := h
    rfl
  obtain ⟨v, b, x, dx, rfl, hB, ok, dd, sh, de, sz, no, q⟩ := h
  have T := R.T
  refine ⟨_, (pss_cons (ps_set (i := 2) scRefused.nd rfl (.inl rfl) pe_non)
  (pss_cons (ps_try_keep (i := 3) rfl rfl rfl scRefused.nd rfl rfl ⟨by rfl, by decide, .inl R.gJ⟩ takes0 (fun W pn xe tk _ => pss_one (ps_expr (pe_calE cLocate hg hr (by rfl) (fun σ => passAt tk σ) (pa_cons (pv 0) (pa_cons (pv 1) pa_nil))))) (fun a pn => pss_one (ps_set (i := 2) scRefused.nd rfl (.inl rfl) (pv 3))))
  (pss_cons (ps_if (PW.pt (pw_or (pt_not (pt_val (pe_callB (call_isX (K := K) rfl) (by rfl) M.isinstance_ (by decide +kernel) (pa_cons (pv 2) (pa_cons (pe_glob (v := .ref CM) (by rfl) T.gC rfl) pa_nil))))) (pw_or1 (pt_not (pt_val (pe_callB (call_isX (K := K) rfl) (by rfl) M.isinstance_ (by decide +kernel) (pa_cons (pv 2) (pa_cons (pe_bltn (v := .ty "ValueError") (by rfl) R.mV (by decide +kernel) rfl) pa_nil))))))))
    (pss_one (ps_ret pe_bl))
    pss_nil)
  (pss_cons (ps_set (i := 4) scRefused.nd rfl (.inl rfl) (pe_callB (call_isXT (K := K) rfl) (by rfl) M.isinstance_ (by decide +kernel) (pa_cons (pv 2) (pa_cons (pe_tup (pa_cons (pe_glob (v := .ref C0) (by rfl) R.g0 rfl) (pa_cons (pe_glob (v := .ref C1) (by rfl) R.g1 rfl) (pa_cons (pe_glob (v := .ref C2) (by rfl) R.g2 rfl) (pa_cons (pe_glob (v := .ref C3) (by rfl) R.g3 rfl) (pa_cons (pe_glob (v := .ref C4) (by rfl) R.g4 rfl) pa_nil)))))) pa_nil))))
  (pss_one (ps_ret (pe_and (pe_not (pv 4)) (pe_one (pe_cmpR op_eq (pe_callB (call_reprA (K := K) rfl hg hr) (by rfl) M.repr_ (by decide +kernel) (pa_cons (pe_exvF (pv 2)) pa_nil)) (pe_callB (call_reprA (K := K) rfl hg hr) (by rfl) M.repr_ (by decide +kernel) (pa_cons (pv 1) pa_nil)) (nomark _)))))))))), ?_⟩
  refine ⟨_, rfl, _, rfl, v, b, x, dx, rfl, hB, ok, dd, fun st e s0 s1 => ?_, fun _ d H1 s1 nd hd => ?_⟩
  · subst e
    have no' : (decide (0 ≤ st) && decide (st ≤ lens b - 1)) = false := no
    rw [decide_eq_true s0, decide_eq_true (show st ≤ lens b - 1 by omega)] at no'
    cases no'
  refine ⟨true, R.ex, fun _ a na => ?_, fun z => nomatch z⟩
  have nad : d ≠ a := ne_of_none hd na
  have hd2 : (upd H1 a (exv a (.ref CM) (some d))) d = some (.xd [("moment", x)]) := by
    rw [upd_ne nad]
    exact hd
  have sE : Same H (upd H1 a (exv a (.ref CM) (some d))) := same_upd s1 (s1.free na)
  have hasd : ∀ dd', some d = some dd' → ∃ fs, (upd H1 a (exv a (.ref CM) (some d))) dd' = some (.xd fs) := fun dd' e => by
    cases e
    exact ⟨_, hd2⟩
  have he := upd_same (H := H1) (a := a) (o := exv a (.ref CM) (some d))
  generalize upd H1 a (exv a (.ref CM) (some d)) = H2 at hd2 sE hasd he
  refine ⟨_, rfl, ?_⟩
  refine ⟨_, rfl, a, CM, some d, _, _, true, rfl, he, hasd, R.xc, .own CM, kit_self K CM, _, rfl, iteF ?_⟩
  refine ⟨_, rfl, a, CM, some d, _, _, true, rfl, he, hasd, R.xc, .ty _, R.kV, _, rfl, iteF ?_⟩
  refine ⟨_, rfl, (by show 5 ≤ sizeLine; decide), fun tp ntp => ?_⟩
  have s3 := same_new (o := .tup [V.ref C0, V.ref C1, V.ref C2, V.ref C3, V.ref C4]) ntp
  have he3 := s3 _ _ he
  have hd3 := s3 _ _ hd2
  refine ⟨a, CM, some d, tp, _, _, false, rfl, he3, fun dd' e => ⟨_, by cases e; exact hd3⟩, R.xc, upd_same, .cons (.own C0) (.cons (.own C1) (.cons (.own C2) (.cons (.own C3) (.cons (.own C4) .nil)))), R.kO, ?_⟩
  have dd3 := dd.same (sE.trans s3)
  refine ⟨_, rfl, _, rfl, _, rfl, iteT ?_⟩
  refine ⟨_, rfl, a, CM, d, _, x, rfl, ⟨T.ga, T.gg, T.exC, T.hdC⟩, T.noN, he3, hd3, by simp [List.lookup], _, dx, rfl, dd3, sh, de, sz, _, rfl, _, dx, rfl, dd3, sh, de, sz, rfl, ?_⟩
  rw [decide_eq_true rfl]
  exact q _ (sE.trans s3)
end
end K07
set_option Elab.async false
set_option linter.all false
set_option maxRecDepth 100000
set_option pp.maxSteps 500
set_option pp.deepTerms.threshold 8
set_option pp.deepTerms false
namespace K07
open PySem PySem.Spec PyProof.Rows L2 Lj
section
variable {P : Program} {w : World} {K : PySem.W.Frag} {mg : Str → Option Value} {base : Heap}
def spLaw (K : PySem.W.Frag) : Sp := fun vs H Q _ => ∃ (a : Addr) (ns : List Int), vs = [.ref a] ∧ SqL K H a (ns.map V.int) ∧ ns.length ≤ 63 ∧ ∀ H', Q (.bl true) H'
theorem kb_locate {f : Addr} {fd : FuncData} (F : Fun K "locate" "locate" sLocate f fd) :
    KBinds K fd ["program", "step"] ["step", "program"] (fun us ws => if us.isEmpty then ws.reverse else []) (fun us ws => if us.isEmpty then ws.reverse else []) := by
  obtain ⟨oc, od, kV, doc, pm, an, cdv, ct, osl, rfl, lk, hcd⟩ := F.ex
  refine ⟨fun s us ws _ hl => ?_, fun {vs us zs ws} r rz => ?_⟩
  · cases us with
    | cons u r =>
      rw [show (u :: r).isEmpty = false from rfl, if_neg Bool.false_ne_true] at hl
      cases hl
    | nil =>
      rw [show ([] : List Value).isEmpty = true from rfl, if_pos rfl, List.length_reverse] at hl
      match ws, hl with
      | [_, _], _ => exact .of_eq rfl
  · cases r with
    | nil => exact vals_rev rz
    | cons _ _ => exact .nil
theorem good_short {p n : Int} {z : Str} {as : List Int} (h : GoodOp p n z as) (hp : p ≤ 10007) (hn : n ≤ 8) : Short z as := by
  have big : (20000 : Nat) < 2 ^ 1000 := by decide +kernel
  refine ⟨h.w7, ?_, fun a m => ?_⟩
  · rcases h with ⟨_, _, _, rfl, _⟩ | ⟨_, _, rfl, _⟩ | ⟨_, _, _, rfl, _⟩ | ⟨_, _, _, _, rfl, _⟩ <;> simp
  · rcases h with ⟨_, x, c, rfl, h⟩ | ⟨_, x, rfl, h⟩ | ⟨_, x, y, rfl, h⟩ | ⟨_, x, y, c, rfl, h⟩ <;> simp only [List.mem_cons, List.not_mem_nil, or_false] at m
    · rcases m with rfl | rfl <;> omega
    · subst m
      omega
    · rcases m with rfl | rfl <;> omega
    · rcases m with rfl | rfl | rfl <;> omega
mutual
theorem Tr.allG_imp {G G' : Str → List Int → Prop} (h : ∀ z as, G z as → G' z as) : ∀ t : Tr, t.allG G → t.allG G'
  | .op z as, g => by
    rw [Tr.allG] at g ⊢
    exact h z as g
  | .loop k b, g => by
    rw [Tr.allG] at g ⊢
    exact allGs_imp h b g
theorem allGs_imp {G G' : Str → List Int → Prop} (h : ∀ z as, G z as → G' z as) : ∀ b : List Tr, allGs G b → allGs G' b
  | [], _ => by rw [allGs]; trivial
  | t :: r, g => by
    rw [allGs] at g ⊢
    exact ⟨Tr.allG_imp h t g.1, allGs_imp h r g.2⟩
end
theorem body_drop {H : Hp} {b : List Tr} {c : Addr} {x : V} {us : List V} (h : TrsAt K H b (x :: us)) : TrsAt K H (b.drop 1) us := by
  cases b with
  | nil => rw [TrsAt] at h; cases h
  | cons t r =>
    rw [TrsAt] at h
    obtain ⟨v, ws, e, _, k⟩ := h
    cases e
    exact k
theorem loc_calm {n k : Nat} {C : Addr} (h : HasE P w K mg base k "locate" ["program", "step"] (spLocE K C n)) : Has P w K mg base k "locate" ["program", "step"] (spLoc K n) :=
  h.calm fun vs H Q E ⟨v, b, st, e, hB, ok, s0, s1, q⟩ => ⟨v, b, .int st, .int st, e, hB, ok, .int st, fun st' es _ _ => by cases es; exact q, fun z => by
    have z' : (decide (0 ≤ st) && decide (st ≤ lens b - 1)) = false := z
    rw [decide_eq_true s0, decide_eq_true (show st ≤ lens b - 1 by omega)] at z'
    cases z'⟩
theorem pair_shaped {ps : List Int} {z : Str} {as : List Int} (h : Short z as) : SeqAt.shaped (.tuple [.tuple (ps.map .int), Tr.datT (.op z as)]) = true := by
  unfold SeqAt.shaped
  rw [Tr.datT]
  simp only [PyData.canLay0, PyData.canLayAll0, W7_ok h.1, lay_ints, PyData.depth, PyData.depthAll, depth_ints]
  rfl
theorem nines : PySem.intText? (Txt.mul "9" 80) = some (10 ^ 80 - 1) := by decide +kernel
theorem nines_len : (Txt.mul "9" 80).length ≤ 640 := by decide +kernel
theorem nines_ok : MulOk "9" 80 := ⟨by decide, fun _ _ => by decide, fun _ _ => by decide⟩
/-! ### right -/
def Odd (b : List Tr) (K : PySem.W.Frag) (H : Hp) (x : V) : Prop := ∃ dx, Dd K H x dx ∧ dx.showable = true ∧ dx.depth ≤ 64 ∧ dx.shown.length ≤ sizeLine ∧ isBd 0 (lens b - 1) dx = false
theorem Odd.same {b : List Tr} {H H' : Hp} {x : V} (s : Same H H') (h : Odd b K H x) : Odd b K H' x := by
  obtain ⟨dx, dd, r⟩ := h
  exact ⟨dx, dd.same s, r⟩
theorem odd_nice {b : List Tr} {H : Hp} {x : V} {n : Nat} {dx : PyData} (dd : Dd K H x dx) (h : Nice n dx) (l : n ≤ 64) (z : isBd 0 (lens b - 1) dx = false) : Odd b K H x := ⟨dx, dd, (h.line l).1, (h.line l).2.1, (h.line l).2.2, z⟩
theorem odd_int {b : List Tr} {H : Hp} {i : Int} (h : i.natAbs < 2 ^ 1000) (z : i < 0 ∨ lens b ≤ i) : Odd b K H (.int i) := by
  refine odd_nice (.int i) (nice_int (log_of (k := 1000) h (by decide) (by decide))) (by decide) ?_
  show (decide (0 ≤ i) && decide (i ≤ lens b - 1)) = false
  rcases z with z | z
  · rw [decide_eq_false (by omega), Bool.false_and]
  · rw [decide_eq_false (show ¬ i ≤ lens b - 1 by omega), Bool.and_false]
theorem nice_c {d : PyData} (h1 : d.showable = true) (h2 : d.depth ≤ 1) (h3 : d.shown.length ≤ 3000) : Nice 1 d := ⟨h1, h2, by omega⟩
def spRight (K : PySem.W.Frag) (d : Nat) : Sp := fun vs H Q _ => ∃ (x v : V) (b : List Tr), vs = [x, v] ∧ BodyAt K H b v ∧ okB (d + 1) b ∧ fines b ∧ (exs b).length ≤ 100000 ∧ allGs Short b ∧ ∀ H', Same H H' → Q (.bl true) H'
theorem ok_right (M : Bl mg) (F : At K mg "_law_right" sRight ["_law_urn_here", "_law_tree"]) {d k : Nat} (FL : At K mg "locate" sLocate ["program", "step"]) (h1 : Has P w K mg base k "_law_paths" ["_law_tree"] (spPaths K (d + 1))) (h2 : Has P w K mg base k "locate" ["program", "step"] (spLoc K d)) (h3 : Has P w K mg base k "_law_refused" ["_law_tree", "_law_value"] (spRef K d)) :
    Has P w K mg base (k + 1) "_law_right" ["_law_urn_here", "_law_tree"] (spRight K d) := by
  obtain ⟨_, _, cPaths⟩ := h1
  obtain ⟨_, _, cLocate⟩ := h2
  obtain ⟨_, _, cRefused⟩ := h3
  have kLocate := kb_locate (cLocate.text FL)
  refine Has.by F scRight (fun vs H Q E h => ?_) (fun f cdv A out s H vs Q E hg hr h => ?_)
  · obtain ⟨_, _, _, rfl, _⟩ := h
    rfl
  obtain ⟨x, v, b, rfl, hB, ok, fin, big, sho, q⟩ := h
  refine ⟨_, (pss_cons (ps_set (i := 2) scRight.nd rfl (.inl rfl) (pe_cal cPaths hg hr (by rfl) (pa_cons (pv 1) pa_nil)))
  (pss_cons (ps_for PassesOwn.never rfl (pi_range1 (by rfl) M.range_ (pa_cons (pe_callB call_len_seq (by rfl) M.len_ (by decide +kernel) (pa_cons (pv 2) pa_nil)) pa_nil)) (pg_name (i := 3) scRight.nd rfl (.inl rfl))
    (pss_one (ps_if (PW.pt (pw_or (pt_cmpR op_ne (pe_callB (call_reprD hg hr) (by rfl) M.repr_ (by decide +kernel) (pa_cons (pe_cal cLocate hg hr (by rfl) (pa_cons (pv 1) (pa_cons (pv 3) pa_nil))) pa_nil)) (pe_callB (call_reprD hg hr) (by rfl) M.repr_ (by decide +kernel) (pa_cons (pe_ix ix_list (pv 2) (pv 3) (fun _ _ => rfl)) pa_nil)) (nomark _)) (pw_or1 (pt_cmpR (op_neD hr.units) (pe_calK0 cLocate kLocate hg hr (by rfl) (pk_cons (pv 3) (pk_cons (pv 1) pk_nil))) (pe_ix ix_list (pv 2) (pv 3) (fun _ _ => rfl)) (nomark _)))))
    (pss_one (ps_ret pe_bl))
    pss_nil)))
  (pss_cons (ps_set (i := 4) scRight.nd rfl (.inl rfl) (pe_lst (pa_cons (pe_un un_neg pe_int) (pa_cons (pe_callB call_len_seq (by rfl) M.len_ (by decide +kernel) (pa_cons (pv 2) pa_nil)) (pa_cons (pe_op op_add (pe_callB call_len_seq (by rfl) M.len_ (by decide +kernel) (pa_cons (pv 2) pa_nil)) pe_int) (pa_cons (pe_callTy call_int_str (by rfl) M.int_ (by decide +kernel) (pa_cons (pe_op op_mulS pe_str pe_int) pa_nil)) (pa_cons (pe_un un_neg (pe_op op_pow pe_int pe_int)) (pa_cons pe_non (pa_cons pe_bl (pa_cons pe_bl (pa_cons pe_str (pa_cons (pe_tup (pa_cons pe_int pa_nil)) (pa_cons (pe_lst (pa_cons pe_int pa_nil)) (pa_cons pe_dnewK (pa_cons (pe_tup pa_nil) pa_nil)))))))))))))))
  (pss_one (ps_ret (pe_callB (cr_all rfl) (by rfl) M.all_ (by decide +kernel) (pa_cons (pe_lc (own := [("_law_value", 5)]) (g := gName 5) (by rfl) scRight.nd (pi_list (pv 4)) (blkOk_by (own := [("_law_value", 5)]) (N := ["_law_urn_here", "_law_tree", "_law_due", "_law_spot", "_law_odd", "_law_value"]) (sc := defScope sRight) (by decide +kernel)) (fun _ _ _ _ _ => (pg_name (i := 5) scRight.nd rfl (.inl rfl))) (fun _ _ _ _ _ => pts_nil) (fun _ _ _ _ _ => (pe_cal cRefused hg hr (by rfl) (pa_cons (pv 1) (pa_cons (pv 5) pa_nil))))) pa_nil))))))), ?_⟩
  have el := exs_len b d ok.1
  have pl := pths_len b 0
  refine ⟨_, rfl, v, b, rfl, hB, ok, fin, big, fun H1 l us s1 nl h1 t1 => ?_⟩
  have ul := t1.length
  refine ⟨_, rfl, l, us, rfl, .inl (SqL.of h1), _, rfl, by omega, by omega, ?_⟩
  rw [show ((us.length : Int)).toNat = us.length from rfl]
  refine for_range (lo := 0) (n := us.length) (fun i σ H' => ∃ y3, σ = [some x, some v, some (.ref l), y3, none, none] ∧ Same H1 H') ⟨_, rfl, Same.refl _⟩ ?_ ?_
  · rintro i σ H2 hi ⟨y3, rfl, s2⟩
    rw [show (0 : Int) + (i : Nat) = (i : Nat) from Int.zero_add _]
    have hB2 := hB.kt (Kt.same (s1.trans s2))
    obtain ⟨y, hy⟩ : ∃ y, us[i]? = some y := ⟨us[i], List.getElem?_eq_getElem hi⟩
    obtain ⟨q0, hq0, pa0⟩ := t1.get hy
    obtain ⟨pt0, z0, as0, ez0⟩ := pths_get b d ok.1 (l := []) hq0
    rw [List.nil_append, lens, Int.zero_add, ez0] at pt0
    have shz : Short z0 as0 := pt0.good sho
    have sm := pt0.small ok.1 ok.2
    refine ⟨_, rfl, _, rfl, v, b, (i : Nat), rfl, hB2, ok, by omega, by omega, fun ps2 z2 as2 p pa2 v2 H3 s3 hp sqp2 pt2 hT2 lps2 => ?_⟩
    obtain ⟨e1, e2⟩ := pt0.unique ok.1 rfl rfl pt2
    cases e2
    rw [e1] at sqp2 pt2 lps2
    obtain ⟨w1, w2, w3, w4⟩ := pair_show sm lps2 shz
    have dp2 : Dp K H3 (.ref p) (.tuple [.tuple (q0.1.map .int), Tr.datT (.op z0 as0)]) := .tup (SqT.of hp) (.cons (.tup sqp2 (dp_ints q0.1)) (.cons (Tr.dp _ _ hT2) .nil))
    obtain ⟨a1, pa, yy, rfl, sa, sp, sy⟩ := pa0
    rw [ez0] at sy
    have dp0 : ∀ {H' : Hp}, Same H1 H' → Dp K H' (.ref a1) (.tuple [.tuple (q0.1.map .int), Tr.datT (.op z0 as0)]) := fun sH => .tup ((Kt.same sH).sq sa) (.cons (.tup ((Kt.same sH).sq sp) (dp_ints q0.1)) (.cons (Tr.dp _ _ (TrAt.kt (Kt.same sH) _ _ sy)) .nil))
    have s23 := s2.trans s3
    refine ⟨_, _, rfl, dp2, w1, w2, w3, w4, _, rfl, _, rfl, l, us, (i : Nat), .ref a1, rfl, rfl, SqL.of (s23 _ _ h1), atI_nat hy, _, _, rfl, dp0 s23, w1, w2, w3, w4, rfl, _, rfl, iteNS rfl ?_⟩
    refine ⟨_, rfl, _, rfl, v, b, (i : Nat), rfl, hB2.kt (Kt.same s3), ok, by omega, by omega, fun ps3 z3 as3 p3 pa3 v3 H4 s4 hp3 sqp3 pt3 hT3 lps3 => ?_⟩
    obtain ⟨e3, e4⟩ := pt0.unique ok.1 rfl rfl pt3
    cases e4
    rw [e3] at sqp3
    have s24 := s23.trans s4
    have dp3 : Dp K H4 (.ref p3) (.tuple [.tuple (q0.1.map .int), Tr.datT (.op z0 as0)]) := .tup (SqT.of hp3) (.cons (.tup sqp3 (dp_ints q0.1)) (.cons (Tr.dp _ _ hT3) .nil))
    have shp := pair_shaped (ps := q0.1) shz
    refine ⟨_, rfl, _, rfl, l, us, (i : Nat), .ref a1, rfl, rfl, SqL.of (s24 _ _ h1), atI_nat hy, _, _, dp3, dp0 s24, shp, shp, _, rfl, ?_⟩
    rw [SeqAt.eqv_refl _ (SeqAt.canLay_of_shaped shp)]
    exact iteF ⟨_, rfl, s24⟩
  rintro σ H2 ⟨y3, rfl, s2⟩
  have sH := s1.trans s2
  have h2 := s2 _ _ h1
  have lb : lens b = (us.length : Int) := by omega
  have b3 : (100000 : Nat) + 1 < 2 ^ 1000 := by decide +kernel
  refine ⟨1, rfl, _, rfl, l, us, rfl, .inl (SqL.of h2), _, rfl, l, us, rfl, .inl (SqL.of h2), _, 1, rfl, rfl, "9", 80, rfl, rfl, nines_ok, _, _, rfl, nines, nines_len, 10, 20, rfl, rfl, ⟨by decide, by decide, by decide⟩, _, rfl, (by show 1 ≤ sizeLine; decide), fun t0 nt0 => ?_⟩
  have r0 := same_new (o := .tup [V.int 0]) nt0
  have g0 := upd_same (H := H2) (a := t0) (o := .tup [V.int 0])
  generalize upd H2 t0 (.tup [V.int 0]) = G0 at r0 g0 ⊢
  refine ⟨(by show 1 ≤ sizeLine; decide), fun l0 nl0 => ?_⟩
  have r1 := same_new (o := .lst [V.int 0]) nl0
  have g1 := upd_same (H := G0) (a := l0) (o := .lst [V.int 0])
  generalize upd G0 l0 (.lst [V.int 0]) = G1 at r1 g1 ⊢
  refine fun d0 nd0 => ?_
  have r2 := same_new (o := .dK []) nd0
  have g2 := upd_same (H := G1) (a := d0) (o := .dK [])
  generalize upd G1 d0 (.dK []) = G2 at r2 g2 ⊢
  refine ⟨(by show 0 ≤ sizeLine; decide), fun t1' nt1 => ?_⟩
  have r3 := same_new (o := .tup []) nt1
  have g3 := upd_same (H := G2) (a := t1') (o := .tup [])
  generalize upd G2 t1' (.tup []) = G3 at r3 g3 ⊢
  have r23 := r2.trans r3
  have r123 := r1.trans r23
  have r0123 := r0.trans r123
  refine ⟨(by show 13 ≤ sizeLine; decide), fun lo nlo => ?_⟩
  have odds : ∀ y ∈ [V.int (-1), V.int (us.length : Nat), V.int ((us.length : Nat) + 1), V.int (10 ^ 80 - 1), V.int (-10 ^ 20), V.non, V.bl true, V.bl false, V.str "0", V.ref t0, V.ref l0, V.ref d0, V.ref t1'], Odd b K G3 y := by
    intro y my
    simp only [List.mem_cons, List.not_mem_nil, or_false] at my
    rcases my with rfl | rfl | rfl | rfl | rfl | rfl | rfl | rfl | rfl | rfl | rfl | rfl | rfl
    · exact odd_int (by decide +kernel) (.inl (by decide))
    · exact odd_int (by omega) (.inr (by omega))
    · exact odd_int (by omega) (.inr (by omega))
    · have : (100000 : Int) ≤ 10 ^ 80 - 1 := by decide +kernel
      exact odd_int (by decide +kernel) (.inr (by omega))
    · exact odd_int (by decide +kernel) (.inl (by decide))
    · exact odd_nice (n := 1) .non (nice_c (by decide +kernel) (by decide +kernel) (by decide +kernel)) (by decide) rfl
    · exact odd_nice (n := 1) (.bl true) (nice_c (by decide +kernel) (by decide +kernel) (by decide +kernel)) (by decide) rfl
    · exact odd_nice (n := 1) (.bl false) (nice_c (by decide +kernel) (by decide +kernel) (by decide +kernel)) (by decide) rfl
    · exact odd_nice (n := 1) (.str "0") (nice_c (by decide +kernel) (by decide +kernel) (by decide +kernel)) (by decide) rfl
    · exact odd_nice (n := 1) (.tup (SqT.of (r123 _ _ g0)) (.cons (.int 0) .nil)) (nice_c (by decide +kernel) (by decide +kernel) (by decide +kernel)) (by decide) rfl
    · exact odd_nice (n := 1) (.lst (SqL.of (r23 _ _ g1)) (.cons (.int 0) .nil)) (nice_c (by decide +kernel) (by decide +kernel) (by decide +kernel)) (by decide) rfl
    · exact odd_nice (n := 1) (.dct (kds := []) (r3 _ _ g2) rfl .nil) (nice_c (by decide +kernel) (by decide +kernel) (by decide +kernel)) (by decide) rfl
    · exact odd_nice (n := 1) (.tup (SqT.of g3) .nil) (nice_c (by decide +kernel) (by decide +kernel) (by decide +kernel)) (by decide) rfl
  generalize hod : [V.int (-1), V.int (us.length : Nat), V.int ((us.length : Nat) + 1), V.int (10 ^ 80 - 1), V.int (-10 ^ 20), V.non, V.bl true, V.bl false, V.str "0", V.ref t0, V.ref l0, V.ref d0, V.ref t1'] = od at odds
  have odl : od.length = 13 := by rw [← hod]; rfl
  generalize hG4 : upd G3 lo _ = G4
  have r4 : Same G3 G4 := by
    rw [← hG4]
    exact same_new nlo
  have g4 : G4 lo = some (.lst od) := by
    rw [← hG4, ← hod]
    exact upd_same
  clear hG4 hod
  have sA : Same H G4 := (sH.trans r0123).trans r4
  refine ⟨_, rfl, lo, rfl, ⟨_, SqL.of g4⟩, fun D nD => ?_⟩
  refine lc_list (xs := od) (fun i H' => H' D = some (.lst ((List.replicate i true).map V.bl)) ∧ Same G4 H') ⟨upd_same, same_new nD⟩ (fun i H' _ h => SqL.of (h.2 _ _ g4)) ?_ ?_
  · rintro i y H5 hy ⟨e1, e2⟩
    obtain ⟨dx, dd, o1, o2, o3, o4⟩ := odds y (List.mem_of_getElem? hy)
    have il := (List.getElem?_eq_some_iff.mp hy).1
    refine ⟨rfl, ?_⟩
    refine ⟨_, rfl, _, rfl, v, b, y, dx, rfl, hB.kt (Kt.same (sA.trans e2)), ok, dd.same (r4.trans e2), o1, o2, o3, o4, fun H6 s6 => ?_⟩
    refine ⟨_, s6 _ _ e1, ?_, ?_, same_upd (e2.trans s6) nD⟩
    · rw [List.length_map, List.length_replicate]
      exact small1000 (by omega)
    · rw [upd_same, List.replicate_succ', List.map_append]
      rfl
  · rintro H5 ⟨e1, e2⟩
    rw [odl] at e1
    exact ⟨D, List.replicate 13 true, rfl, SqL.of e1, q _ (sA.trans e2)⟩
theorem ok_law (M : Bl mg) (F : At K mg "law" sLaw ["_law_script"]) {k : Nat}
    (h1 : Has P w K mg base k "_law_urn" ["_law_script", "_law_k"] (spUrn K)) (h2 : Has P w K mg base k "_law_take" ["_law_urn_here", "_law_below"] spTake) (h3 : Has P w K mg base k "_law_prime" ["_law_urn_here"] spPrimeU) (h4 : Has P w K mg base k "_law_words" [] spWords)
    (h5 : Has P w K mg base k "_law_body" ["_law_urn_here", "_law_p", "_law_n", "_law_words_here", "_law_length", "_law_deep", "_law_rounds"] (spBody K 5)) (h6 : Has P w K mg base k "_law_right" ["_law_urn_here", "_law_tree"] (spRight K 4))
    (h8 : Has P w K mg base k "_law_steps" ["_law_tree"] (spTI K (okB 5) lens)) (h9 : Has P w K mg base k "_law_refused" ["_law_tree", "_law_value"] (spRef K 4)) :
    Has P w K mg base (k + 1) "law" ["_law_script"] (spLaw K) := by
  obtain ⟨_, _, cUrn⟩ := h1
  obtain ⟨_, _, cTake⟩ := h2
  obtain ⟨_, _, cPrime⟩ := h3
  obtain ⟨_, _, cWords⟩ := h4
  obtain ⟨_, _, cBody⟩ := h5
  obtain ⟨_, _, cRight⟩ := h6
  obtain ⟨_, _, cSteps⟩ := h8
  obtain ⟨_, _, cRefused⟩ := h9
  refine Has.by F scLaw (fun vs H Q E h => ?_) (fun f cdv A out s H vs Q E hg hr h => ?_)
  · obtain ⟨a, ns, rfl, _⟩ := h
    rfl
  obtain ⟨a, ns, rfl, hS, hl, q⟩ := h
  refine ⟨_, (pss_cons (ps_for PassesOwn.never rfl (pi_range1 (by rfl) M.range_ (pa_cons (pe_callB (call_max2 rfl) (by rfl) M.max_ (by decide +kernel) (pa_cons pe_int (pa_cons (pe_callB (call_min2 rfl) (by rfl) M.min_ (by decide +kernel) (pa_cons pe_int (pa_cons (pe_callB call_len_seq (by rfl) M.len_ (by decide +kernel) (pa_cons (pv 0) pa_nil)) pa_nil))) pa_nil))) pa_nil)) (pg_name (i := 1) scLaw.nd rfl (.inl rfl))
    (pss_cons (ps_set (i := 2) scLaw.nd rfl (.inl rfl) (pe_cal cUrn hg hr (by rfl) (pa_cons (pv 0) (pa_cons (pv 1) pa_nil))))
  (pss_cons (ps_par (i := 3) (j := 4) (by rfl) scLaw.nd rfl rfl (by decide) rfl rfl (pa_cons (pe_cal cPrime hg hr (by rfl) (pa_cons (pv 2) pa_nil)) (pa_cons (pe_op op_add pe_int (pe_cal cTake hg hr (by rfl) (pa_cons (pv 2) (pa_cons pe_int pa_nil)))) pa_nil)) (by rfl))
  (pss_one (ps_for PassesOwn.never rfl (pi_range1 (by rfl) M.range_ (pa_cons pe_int pa_nil)) (pg_name (i := 5) scLaw.nd rfl (.inl rfl))
    (pss_cons (ps_set (i := 6) scLaw.nd rfl (.inl rfl) (pe_cal cBody hg hr (by rfl) (pa_cons (pv 2) (pa_cons (pv 3) (pa_cons (pv 4) (pa_cons (pe_cal0 cWords hg hr (by rfl)) (pa_cons pe_int (pa_cons pe_int (pa_cons (pe_lst (pa_cons pe_int (pa_cons pe_int (pa_cons pe_int (pa_cons pe_int pa_nil))))) pa_nil)))))))))
  (pss_cons (ps_while PassesOwn.never (pt_cmpR op_gt (pe_cal cSteps hg hr (by rfl) (pa_cons (pv 6) pa_nil)) pe_int (nomark _))
    (pss_one (ps_set (i := 6) scLaw.nd rfl (.inl rfl) (pe_slice sl_tup (pv 6) (po_some pe_int) po_none))))
  (pss_one (ps_if (pt_not (pt_val (pe_cal cRight hg hr (by rfl) (pa_cons (pv 2) (pa_cons (pv 6) pa_nil)))))
    (pss_one (ps_ret pe_bl))
    pss_nil)))))))))
  (pss_one (ps_ret (pe_and (pe_cal cRefused hg hr (by rfl) (pa_cons (pe_tup pa_nil) (pa_cons pe_int pa_nil))) (pe_one (pe_cal cRefused hg hr (by rfl) (pa_cons (pe_tup (pa_cons (pe_tup (pa_cons pe_str (pa_cons (pe_op op_pow pe_int pe_int) (pa_cons (pe_tup pa_nil) pa_nil)))) pa_nil)) (pa_cons pe_int pa_nil)))))))), ?_⟩
  have hlen : (ns.map V.int).length = ns.length := List.length_map _
  refine ⟨_, rfl, a, _, rfl, .inl hS, 3, _, rfl, 1, _, rfl, ?_⟩
  rw [hlen]
  obtain ⟨m, hm, hm3⟩ : ∃ m : Nat, (if (if (ns.length : Int) < 3 then (ns.length : Int) else 3) > 1 then (if (ns.length : Int) < 3 then (ns.length : Int) else 3) else 1) = (m : Int) ∧ m ≤ 3 := by
    refine ⟨(if (if (ns.length : Int) < 3 then (ns.length : Int) else 3) > 1 then (if (ns.length : Int) < 3 then (ns.length : Int) else 3) else 1).toNat, ?_, ?_⟩
    · split <;> split <;> omega
    · split <;> split <;> omega
  refine ⟨_, rfl, ?_, ?_, ?_⟩
  · rw [hm]; omega
  · rw [hm]; omega
  rw [hm]
  refine for_range (lo := 0) (n := m) (fun i σ H' => ∃ y1 y2 y3 y4 y5 y6, σ = [some (.ref a), y1, y2, y3, y4, y5, y6] ∧ Same H H') ⟨_, _, _, _, _, _, rfl, Same.refl _⟩ ?_ ?_
  · rintro i σ H1 hi ⟨y1, y2, y3, y4, y5, y6, rfl, sm⟩
    refine ⟨_, rfl, _, rfl, a, ns, _, rfl, sm.seq hS, by omega, by omega, fun H2 u s2 nu hU => ?_⟩
    have nHu : H u = none := sm.free nu
    have sA : Same H H2 := sm.trans s2
    refine ⟨_, rfl, u, rfl, hU, fun p H3 hp u3 b3 => ?_⟩
    obtain ⟨p0, p1⟩ := prs_bd hp
    refine ⟨_, rfl, u, 8, rfl, u3, by decide, wide_big (by decide) (by decide), fun n0 H4 n00 n01 u4 b4 => ?_⟩
    refine ⟨1, n0, rfl, rfl, _, _, rfl, ?_⟩
    have sB : Same H H4 := same_but (same_but sA nHu b3) nHu b4
    refine ⟨3, rfl, by decide, by decide, ?_⟩
    refine for_range (lo := 0) (n := 3) (fun j σ H' => ∃ y5 y6, σ = [some (.ref a), some (.int (0 + (i : Nat))), some (.ref u), some (.int p), some (.int (1 + n0)), y5, y6] ∧ Same H H' ∧ Urn H' u) ⟨_, _, rfl, sB, u4⟩ ?_ ?_
    · rintro j σ H5 hj ⟨y5, y6, rfl, s5, u5⟩
      -- tree
      refine ⟨_, rfl, _, rfl, _, rfl, rfl, fun ws nws => ?_⟩
      have u6 := u5.same (same_new (o := .lst (W9.map V.str)) nws)
      refine ⟨(by show 4 ≤ sizeLine; decide), fun rs nrs => ?_⟩
      have u7 := u6.same (same_new (o := .lst (([0, 1, 2, 3] : List Int).map V.int)) nrs)
      have hws : (upd (upd H5 ws (.lst (W9.map V.str))) rs (.lst (([0, 1, 2, 3] : List Int).map V.int))) ws = some (.lst (W9.map V.str)) := same_new nrs _ _ upd_same
      refine ⟨u, ws, rs, p, 1 + n0, W9, [0, 1, 2, 3], 8, 4, rfl, u7, p0, p1, by omega, by omega, u5.ne nws, SqL.of hws, (by intro z; cases z), (by decide), W9_in, u6.ne nrs, SqL.of upd_same, (by intro z; cases z), (by decide), (by decide), (by decide), fun b0 v0 H8 bl0 mad0 hB0 u8 b8 => ?_⟩
      have s8 : Same H H8 := same_but ((s5.trans (same_new nws)).trans (same_new nrs)) nHu b8
      have hG : ∀ z as, (GoodOp p (1 + n0) z as ∧ (z ∈ W9 ∨ z = "set")) → z ∈ W7 := fun z as h => h.1.w7
      have hR : ∀ k : Int, k ∈ ([0, 1, 2, 3] : List Int) → 0 ≤ k ∧ k ≤ 3 := fun k h => by
        simp only [List.mem_cons, List.not_mem_nil, or_false] at h
        omega
      -- while steps(tree) > 300
      refine ⟨fun mm σ H' => ∃ v b, σ = [some (.ref a), some (.int (0 + (i : Nat))), some (.ref u), some (.int p), some (.int (1 + n0)), some (.int (0 + (j : Nat))), some v] ∧ Same H H' ∧ Urn H' u ∧ BodyAt K H' b v ∧ b.length ≤ 8 ∧ mades (fun z as => GoodOp p (1 + n0) z as ∧ (z ∈ W9 ∨ z = "set")) (fun k => k ∈ ([0, 1, 2, 3] : List Int)) b 8 4 ∧ mm = b.length,
        ⟨_, v0, b0, rfl, s8, u8, hB0, bl0, mad0, rfl⟩, ?_⟩
      rintro mm σ H9 ⟨v, b, rfl, s9, u9, hB, bl, mad, rfl⟩
      have wf4 := mades_wf hG (fun k h => ⟨(hR k h).1, by have := (hR k h).2; omega⟩) b 8 4 (by decide) mad
      have ok5 : okB 5 b := ⟨wf4, by omega⟩
      refine ⟨_, rfl, v, b, rfl, hB, ok5, fun H10 s10 => ?_⟩
      refine ⟨_, _, rfl, rfl, _, rfl, ite2 (fun c => ?_) (fun c => ?_)⟩
      · have c' : 400 < lens b := of_decide_eq_true c
        obtain ⟨cc, us, rfl, sq, tr⟩ := hB.kt (Kt.same s10)
        cases us with
        | nil =>
          have e := tr.length
          have : b = [] := List.length_eq_zero_iff.mp e.symm
          subst this
          rw [lens] at c'
          omega
        | cons x us =>
          have e := tr.length
          rw [List.length_cons] at e
          refine ⟨fun σ' H' => ∃ v, σ' = [some (.ref a), some (.int (0 + (i : Nat))), some (.ref u), some (.int p), some (.int (1 + n0)), some (.int (0 + (j : Nat))), some v] ∧ Same H H' ∧ Urn H' u ∧ BodyAt K H' (b.drop 1) v, ?_, ?_⟩
          · rintro σ' H' ⟨v', rfl, s', u', hB'⟩
            refine ⟨b.length - 1, by omega, v', b.drop 1, rfl, s', u', hB', by rw [List.length_drop]; omega, mades_drop mad, by rw [List.length_drop]⟩
          · refine ⟨_, rfl, 1, rfl, cc, _, rfl, sq, cut_tail_ne _ _, fun t nt => ?_⟩
            rw [cut_tail]
            exact ⟨_, rfl, (s9.trans s10).trans (same_new nt), (u9.same s10).same (same_new nt), t, us, rfl, SqT.of upd_same, TrsAt.kt (Kt.same (same_new nt)) _ _ (body_drop (c := cc) tr)⟩
      · have fin := mades_fine hG hR b 8 4 most84 mad
        have big := mades_big hR bl most84 mad
        have sho : allGs Short b := allGs_imp (fun z as h => good_short h.1 p1 (by omega)) b (mades_allG b 8 4 mad)
        have hB10 := hB.kt (Kt.same s10)
        refine ⟨_, rfl, _, rfl, _, v, b, rfl, hB10, ok5, fin, big, sho, fun H11 s11 => ?_⟩
        refine ⟨_, rfl, iteF ?_⟩
        exact ⟨_, _, rfl, (s9.trans s10).trans s11, (u9.same s10).same s11⟩
    · rintro σ H5 ⟨y5, y6, rfl, s5, u5⟩
      exact ⟨_, _, _, _, _, _, rfl, s5⟩
  · rintro σ H1 ⟨y1, y2, y3, y4, y5, y6, rfl, sm⟩
    refine ⟨(by show 0 ≤ sizeLine; decide), fun t1 nt1 => ?_⟩
    have o0 : okB 5 [] := ⟨by rw [wfs]; trivial, by show 0 ≤ 1000; decide⟩
    have big0 : isBd 0 (lens [] - 1) (.int 0) = false := by rw [lens]; rfl
    obtain ⟨n1, n2, n3⟩ := (nice_int (i := 0) (by decide)).line (by decide)
    refine ⟨_, [], .int 0, .int 0, rfl, ⟨t1, [], rfl, SqT.of upd_same, TrsAt.nil⟩, o0, .int 0, n1, n2, n3, big0, fun H2 s2 => ?_⟩
    refine ⟨_, rfl, iteT ?_⟩
    refine ⟨10, 18, rfl, rfl, ⟨by decide, by decide, by decide⟩, (by show 0 ≤ sizeLine; decide), fun t3 nt3 => ?_⟩
    refine ⟨(by show 3 ≤ sizeLine; decide), fun t4 nt4 => ?_⟩
    refine ⟨(by show 1 ≤ sizeLine; decide), fun t5 nt5 => ?_⟩
    have s4 := same_new (o := .tup [V.str "loop", V.int (10 ^ 18), V.ref t3]) nt4
    have s5 := same_new (o := .tup [V.ref t4]) nt5
    have o1 : okB 5 [.loop (10 ^ 18) []] := ⟨by rw [wfs, wfs, Tr.wf, wfs]; exact ⟨⟨by decide, by decide, by show 0 ≤ 1000; decide, trivial⟩, trivial⟩, by show 1 ≤ 1000; decide⟩
    have e1 : lens [.loop (10 ^ 18) []] = 0 := by rw [lens, lens, Tr.len, lens]; rfl
    have big1 : isBd 0 (lens [.loop (10 ^ 18) []] - 1) (.int 0) = false := by rw [e1]; rfl
    refine ⟨_, [.loop (10 ^ 18) []], .int 0, .int 0, rfl, ⟨t5, _, rfl, SqT.of upd_same, TrsAt.one ?_⟩, o1, .int 0, n1, n2, n3, big1, fun H6 s6 => q H6⟩
    rw [TrAt]
    exact ⟨t4, t3, [], rfl, (Kt.same s5).sq (SqT.of upd_same), (Kt.same (s4.trans s5)).sq (SqT.of upd_same), TrsAt.nil⟩
end
end K07
set_option Elab.async false
set_option linter.all false
set_option maxRecDepth 100000
set_option pp.maxSteps 500
set_option pp.deepTerms.threshold 8
set_option pp.deepTerms false
namespace K07
open PySem PySem.Spec PyProof.Rows L2 Lj
set_option maxHeartbeats 8000000
theorem all_mk {l : PySem.W.OpenLaw} {w : World} {K : PySem.W.Frag} {h : Heap} {mg : Str → Option Value} {fa f0 f1 f2 f3 f4 f5 f6 f7 f8 f9 f10 f11 f12 f13 f14 f15 f16 : Addr} (X : K.In h) (G : h.Ns mainGlobals mg) (hfa : mg "law" = some (.ref fa))
    {od0 an0 od1 an1 od2 an2 od3 an3 od4 an4 od5 an5 od6 an6 od7 an7 od8 an8 od9 an9 od10 an10 od11 an11 od12 an12 od13 an13 od14 an14 od15 an15 od16 an16 : Option Addr} {sl0 sl1 sl2 sl3 sl4 sl5 sl6 sl7 sl8 sl9 sl10 sl11 sl12 sl13 sl14 sl15 sl16 : Array (Option Value)} {oc0 kV0 dc0 pm0 cd0 ct0 oc1 kV1 dc1 pm1 cd1 ct1 oc2 kV2 dc2 pm2 cd2 ct2 oc3 kV3 dc3 pm3 cd3 ct3 oc4 kV4 dc4 pm4 cd4 ct4 oc5 kV5 dc5 pm5 cd5 ct5 oc6 kV6 dc6 pm6 cd6 ct6 oc7 kV7 dc7 pm7 cd7 ct7 oc8 kV8 dc8 pm8 cd8 ct8 oc9 kV9 dc9 pm9 cd9 ct9 oc10 kV10 dc10 pm10 cd10 ct10 oc11 kV11 dc11 pm11 cd11 ct11 oc12 kV12 dc12 pm12 cd12 ct12 oc13 kV13 dc13 pm13 cd13 ct13 oc14 kV14 dc14 pm14 cd14 ct14 oc15 kV15 dc15 pm15 cd15 ct15 oc16 kV16 dc16 pm16 cd16 ct16 : Value}
    (a0 : PySem.W.nsIn K mainGlobals "is_between" = some (some (.ref f0))) (l0 : K.lookup f0 = some ⟨oc0, od0, .func (PySem.W.fnOf "is_between" "is_between" (defArgs sIs_between) (defBody sIs_between) (defScope sIs_between) .none kV0 dc0 pm0 an0 cd0 ct0), sl0⟩) (c0 : PySem.W.codeIn K cd0 "is_between" = true) (k0 : PySem.W.keepIn K (.ref f0) = true)
    (a1 : PySem.W.nsIn K mainGlobals "step_count" = some (some (.ref f1))) (l1 : K.lookup f1 = some ⟨oc1, od1, .func (PySem.W.fnOf "step_count" "step_count" (defArgs sStep_count) (defBody sStep_count) (defScope sStep_count) .none kV1 dc1 pm1 an1 cd1 ct1), sl1⟩) (c1 : PySem.W.codeIn K cd1 "step_count" = true) (k1 : PySem.W.keepIn K (.ref f1) = true)
    (a2 : PySem.W.nsIn K mainGlobals "length" = some (some (.ref f2))) (l2 : K.lookup f2 = some ⟨oc2, od2, .func (PySem.W.fnOf "length" "length" (defArgs sLength) (defBody sLength) (defScope sLength) .none kV2 dc2 pm2 an2 cd2 ct2), sl2⟩) (c2 : PySem.W.codeIn K cd2 "length" = true) (k2 : PySem.W.keepIn K (.ref f2) = true)
    (a3 : PySem.W.nsIn K mainGlobals "locate" = some (some (.ref f3))) (l3 : K.lookup f3 = some ⟨oc3, od3, .func (PySem.W.fnOf "locate" "locate" (defArgs sLocate) (defBody sLocate) (defScope sLocate) .none kV3 dc3 pm3 an3 cd3 ct3), sl3⟩) (c3 : PySem.W.codeIn K cd3 "locate" = true) (k3 : PySem.W.keepIn K (.ref f3) = true)
    (a4 : PySem.W.nsIn K mainGlobals "place" = some (some (.ref f4))) (l4 : K.lookup f4 = some ⟨oc4, od4, .func (PySem.W.fnOf "place" "place" (defArgs sPlace) (defBody sPlace) (defScope sPlace) .none kV4 dc4 pm4 an4 cd4 ct4), sl4⟩) (c4 : PySem.W.codeIn K cd4 "place" = true) (k4 : PySem.W.keepIn K (.ref f4) = true)
    (a5 : PySem.W.nsIn K mainGlobals "_law_urn" = some (some (.ref f5))) (l5 : K.lookup f5 = some ⟨oc5, od5, .func (PySem.W.fnOf "_law_urn" "_law_urn" (defArgs sUrn) (defBody sUrn) (defScope sUrn) .none kV5 dc5 pm5 an5 cd5 ct5), sl5⟩) (c5 : PySem.W.codeIn K cd5 "_law_urn" = true) (k5 : PySem.W.keepIn K (.ref f5) = true)
    (a6 : PySem.W.nsIn K mainGlobals "_law_take" = some (some (.ref f6))) (l6 : K.lookup f6 = some ⟨oc6, od6, .func (PySem.W.fnOf "_law_take" "_law_take" (defArgs sTake) (defBody sTake) (defScope sTake) .none kV6 dc6 pm6 an6 cd6 ct6), sl6⟩) (c6 : PySem.W.codeIn K cd6 "_law_take" = true) (k6 : PySem.W.keepIn K (.ref f6) = true)
    (a7 : PySem.W.nsIn K mainGlobals "_law_of" = some (some (.ref f7))) (l7 : K.lookup f7 = some ⟨oc7, od7, .func (PySem.W.fnOf "_law_of" "_law_of" (defArgs sOf) (defBody sOf) (defScope sOf) .none kV7 dc7 pm7 an7 cd7 ct7), sl7⟩) (c7 : PySem.W.codeIn K cd7 "_law_of" = true) (k7 : PySem.W.keepIn K (.ref f7) = true)
    (a8 : PySem.W.nsIn K mainGlobals "_law_prime" = some (some (.ref f8))) (l8 : K.lookup f8 = some ⟨oc8, od8, .func (PySem.W.fnOf "_law_prime" "_law_prime" (defArgs sPrime) (defBody sPrime) (defScope sPrime) .none kV8 dc8 pm8 an8 cd8 ct8), sl8⟩) (c8 : PySem.W.codeIn K cd8 "_law_prime" = true) (k8 : PySem.W.keepIn K (.ref f8) = true)
    (a9 : PySem.W.nsIn K mainGlobals "_law_item" = some (some (.ref f9))) (l9 : K.lookup f9 = some ⟨oc9, od9, .func (PySem.W.fnOf "_law_item" "_law_item" (defArgs sItem) (defBody sItem) (defScope sItem) .none kV9 dc9 pm9 an9 cd9 ct9), sl9⟩) (c9 : PySem.W.codeIn K cd9 "_law_item" = true) (k9 : PySem.W.keepIn K (.ref f9) = true)
    (a10 : PySem.W.nsIn K mainGlobals "_law_body" = some (some (.ref f10))) (l10 : K.lookup f10 = some ⟨oc10, od10, .func (PySem.W.fnOf "_law_body" "_law_body" (defArgs sBody) (defBody sBody) (defScope sBody) .none kV10 dc10 pm10 an10 cd10 ct10), sl10⟩) (c10 : PySem.W.codeIn K cd10 "_law_body" = true) (k10 : PySem.W.keepIn K (.ref f10) = true)
    (a11 : PySem.W.nsIn K mainGlobals "_law_words" = some (some (.ref f11))) (l11 : K.lookup f11 = some ⟨oc11, od11, .func (PySem.W.fnOf "_law_words" "_law_words" (defArgs sWords) (defBody sWords) (defScope sWords) .none kV11 dc11 pm11 an11 cd11 ct11), sl11⟩) (c11 : PySem.W.codeIn K cd11 "_law_words" = true) (k11 : PySem.W.keepIn K (.ref f11) = true)
    (a12 : PySem.W.nsIn K mainGlobals "_law_steps" = some (some (.ref f12))) (l12 : K.lookup f12 = some ⟨oc12, od12, .func (PySem.W.fnOf "_law_steps" "_law_steps" (defArgs sSteps) (defBody sSteps) (defScope sSteps) .none kV12 dc12 pm12 an12 cd12 ct12), sl12⟩) (c12 : PySem.W.codeIn K cd12 "_law_steps" = true) (k12 : PySem.W.keepIn K (.ref f12) = true)
    (a13 : PySem.W.nsIn K mainGlobals "_law_paths" = some (some (.ref f13))) (l13 : K.lookup f13 = some ⟨oc13, od13, .func (PySem.W.fnOf "_law_paths" "_law_paths" (defArgs sPaths) (defBody sPaths) (defScope sPaths) .none kV13 dc13 pm13 an13 cd13 ct13), sl13⟩) (c13 : PySem.W.codeIn K cd13 "_law_paths" = true) (k13 : PySem.W.keepIn K (.ref f13) = true)
    (a14 : PySem.W.nsIn K mainGlobals "_law_refused" = some (some (.ref f14))) (l14 : K.lookup f14 = some ⟨oc14, od14, .func (PySem.W.fnOf "_law_refused" "_law_refused" (defArgs sRefused) (defBody sRefused) (defScope sRefused) .none kV14 dc14 pm14 an14 cd14 ct14), sl14⟩) (c14 : PySem.W.codeIn K cd14 "_law_refused" = true) (k14 : PySem.W.keepIn K (.ref f14) = true)
    (a15 : PySem.W.nsIn K mainGlobals "_law_right" = some (some (.ref f15))) (l15 : K.lookup f15 = some ⟨oc15, od15, .func (PySem.W.fnOf "_law_right" "_law_right" (defArgs sRight) (defBody sRight) (defScope sRight) .none kV15 dc15 pm15 an15 cd15 ct15), sl15⟩) (c15 : PySem.W.codeIn K cd15 "_law_right" = true) (k15 : PySem.W.keepIn K (.ref f15) = true)
    (a16 : PySem.W.nsIn K mainGlobals "law" = some (some (.ref f16))) (l16 : K.lookup f16 = some ⟨oc16, od16, .func (PySem.W.fnOf "law" "law" (defArgs sLaw) (defBody sLaw) (defScope sLaw) .none kV16 dc16 pm16 an16 cd16 ct16), sl16⟩) (c16 : PySem.W.codeIn K cd16 "law" = true) (k16 : PySem.W.keepIn K (.ref f16) = true)
    (z0 : PySem.W.nsIn K mainGlobals "len" = some none)
    (z1 : PySem.W.nsIn K mainGlobals "abs" = some none)
    (z2 : PySem.W.nsIn K mainGlobals "int" = some none)
    (z3 : PySem.W.nsIn K mainGlobals "range" = some none)
    (z4 : PySem.W.nsIn K mainGlobals "max" = some none)
    (z5 : PySem.W.nsIn K mainGlobals "min" = some none)
    (z6 : PySem.W.nsIn K mainGlobals "all" = some none)
    (z7 : PySem.W.nsIn K mainGlobals "sum" = some none)
    (z8 : PySem.W.nsIn K mainGlobals "list" = some none)
    (z9 : PySem.W.nsIn K mainGlobals "tuple" = some none)
    (z10 : PySem.W.nsIn K mainGlobals "isinstance" = some none)
    (z11 : PySem.W.nsIn K mainGlobals "bool" = some none)
    (z12 : PySem.W.nsIn K mainGlobals "repr" = some none)
    (z13 : PySem.W.nsIn K mainGlobals "enumerate" = some none)
    (z14 : PySem.W.nsIn K mainGlobals "zip" = some none)
    (z15 : PySem.W.nsIn K mainGlobals "divmod" = some none)
    {CJ C0 C1 C2 C3 C4 CM fM NM cdaM ccM : Addr} {ddM odM anM cddM cldM : Option Addr} {slM ccsM cslM : Array (Option Value)} {ocM dcM pmM ctM cclM clM : Value} {nmM qM fileM : Str} {tfM : Tok} {bsM subM : List Value}
    (aEJ : PySem.W.nsIn K mainGlobals "JournalError" = some (some (.ref CJ))) (eEJ : PySem.W.subIn K (.ref CJ) (.type "BaseException") = some true) (hEJ : PySem.W.hasDictIn K CJ = true) (yEJ : PySem.W.typeIn K (.ref CJ) = some (.type "type"))
    (zsu : PySem.W.nsIn K mainGlobals "super" = some none) (zve : PySem.W.nsIn K mainGlobals "ValueError" = some none) (zop : PySem.W.nsIn K PySem.cStatics "thirdparty.any" = some none) (ztp : (l.prog.main.scope.names.lookup ("super" : Str)).isSome = false)
    (aE0 : PySem.W.nsIn K mainGlobals "BadProgram" = some (some (.ref C0)))
    (aE1 : PySem.W.nsIn K mainGlobals "BadRegister" = some (some (.ref C1)))
    (aE2 : PySem.W.nsIn K mainGlobals "BadState" = some (some (.ref C2)))
    (aE3 : PySem.W.nsIn K mainGlobals "BadText" = some (some (.ref C3)))
    (aE4 : PySem.W.nsIn K mainGlobals "NoStep" = some (some (.ref C4)))
    {snM : List Str} {abM : Bool} {colM : Option Bool} {m0M m1M m2M m3M m5M : Option Value} {vsM : Array Value}
    (aEM : PySem.W.nsIn K mainGlobals "BadMoment" = some (some (.ref CM))) (xEM : K.lookup CM = some (excClassObj nmM qM CM NM bsM [.ref CJ, .type "ValueError", .type "Exception", .type "BaseException", .type "object"] true snM subM abM colM ddM m0M m1M m2M m3M m5M "ValueError.__new__")) (saEM : PySem.W.findIn K (.ref CM) "__setattr__" = some (some (.builtin "object.__setattr__"))) (gEM1 : PySem.W.findIn K (.ref CM) "__getattribute__" = some (some (.builtin "BaseException.__getattribute__"))) (gEM2 : PySem.W.findIn K (.ref CM) "__getattr__" = some none) (nEM : PySem.W.findIn K (.ref CM) "moment" = some none) (iEM : PySem.W.findIn K (.ref CM) "__init__" = some (some (.ref fM))) (tEM : PySem.W.typeIn K (.ref fM) = some (.type "function")) (kEM : PySem.W.keepIn K (.ref CM) = true) (eEM : PySem.W.subIn K (.ref CM) (.type "BaseException") = some true) (vEM : PySem.W.subIn K (.ref CM) (.type "ValueError") = some true) (yEM : PySem.W.typeIn K (.ref CM) = some (.type "type")) (hEM : PySem.W.hasDictIn K CM = true) (rEM : PySem.W.mroIn K CM (.ref CM) = some true) (uEM : PySem.W.ks_superIn K CM CM "__init__" = some (some (.builtin "ValueError.__init__"))) (lEM : K.lookup fM = some ⟨ocM, odM, .func (PySem.W.ksFn "__init__" "BadMoment.__init__" (defArgs sEM) (defBody sEM) (defScope sEM) .none .none dcM pmM anM (.ref cdaM) ctM ccM), slM⟩) (cEM : PySem.W.codeIn K (.ref cdaM) "BadMoment.__init__" = true) (dEM : K.lookup cdaM = some ⟨cclM, cddM, .fields vsM, ccsM⟩) (wEM : vsM[2]? = some (.str fileM tfM)) (oEM : ((l.prog.main.file : Str) == fileM) = true) (qEM : K.lookup ccM = some ⟨clM, cldM, .cell (some (.ref CM)), cslM⟩) (jEM : PySem.W.subIn K (.ref CM) (.ref CJ) = some true) (bEM1 : PySem.W.findIn K (.ref CM) "__class__" = some (some (.builtin "object.__class__"))) (bEM2 : PySem.W.specialIn K (.builtin "object.__class__") "__get__" = some (some (.builtin "getset_descriptor.__get__"))) (bEM3 : PySem.W.takesIn K (.builtin "object.__class__") = some true) (bEM4 : PySem.W.mroIn K CM (.type "object") = some true)
    (kkV : PySem.W.kitOne K (.ref CM) (.type "ValueError") = some true)
    (kkO : PySem.W.kitAny K (.ref CM) [.ref C0, .ref C1, .ref C2, .ref C3, .ref C4] = some false)
    : ∃ fd : FuncData, (∀ (s : Shared) (v : Value), BindsTo s fd ⟨[v], []⟩ [("_law_script", v)]) ∧ ∀ base : Heap, K.In base → base.Ns mainGlobals mg → FnG l.prog w K mg base 16 fa fd ["_law_script"] (spLaw K) := by
  have FIs_between := fun_mk (st := sIs_between) l0 c0 k0
  have AIs_between : At K mg "is_between" sIs_between ["value", "low", "high"] := ⟨_, _, FIs_between, FIs_between.binds (ps := ["value", "low", "high"]) fun _ _ _ _ _ _ us hl => match us, hl with | [_, _, _], _ => rfl, PySem.W.mg_of X G a0⟩
  have FStep_count := fun_mk (st := sStep_count) l1 c1 k1
  have AStep_count : At K mg "step_count" sStep_count ["program"] := ⟨_, _, FStep_count, FStep_count.binds (ps := ["program"]) fun _ _ _ _ _ _ us hl => match us, hl with | [_], _ => rfl, PySem.W.mg_of X G a1⟩
  have FLength := fun_mk (st := sLength) l2 c2 k2
  have ALength : At K mg "length" sLength ["instruction"] := ⟨_, _, FLength, FLength.binds (ps := ["instruction"]) fun _ _ _ _ _ _ us hl => match us, hl with | [_], _ => rfl, PySem.W.mg_of X G a2⟩
  have FLocate := fun_mk (st := sLocate) l3 c3 k3
  have ALocate : At K mg "locate" sLocate ["program", "step"] := ⟨_, _, FLocate, FLocate.binds (ps := ["program", "step"]) fun _ _ _ _ _ _ us hl => match us, hl with | [_, _], _ => rfl, PySem.W.mg_of X G a3⟩
  have FPlace := fun_mk (st := sPlace) l4 c4 k4
  have APlace : At K mg "place" sPlace ["program", "step"] := ⟨_, _, FPlace, FPlace.binds (ps := ["program", "step"]) fun _ _ _ _ _ _ us hl => match us, hl with | [_, _], _ => rfl, PySem.W.mg_of X G a4⟩
  have FUrn := fun_mk (st := sUrn) l5 c5 k5
  have AUrn : At K mg "_law_urn" sUrn ["_law_script", "_law_k"] := ⟨_, _, FUrn, FUrn.binds (ps := ["_law_script", "_law_k"]) fun _ _ _ _ _ _ us hl => match us, hl with | [_, _], _ => rfl, PySem.W.mg_of X G a5⟩
  have FTake := fun_mk (st := sTake) l6 c6 k6
  have ATake : At K mg "_law_take" sTake ["_law_urn_here", "_law_below"] := ⟨_, _, FTake, FTake.binds (ps := ["_law_urn_here", "_law_below"]) fun _ _ _ _ _ _ us hl => match us, hl with | [_, _], _ => rfl, PySem.W.mg_of X G a6⟩
  have FOf := fun_mk (st := sOf) l7 c7 k7
  have AOf : At K mg "_law_of" sOf ["_law_urn_here", "_law_items"] := ⟨_, _, FOf, FOf.binds (ps := ["_law_urn_here", "_law_items"]) fun _ _ _ _ _ _ us hl => match us, hl with | [_, _], _ => rfl, PySem.W.mg_of X G a7⟩
  have FPrime := fun_mk (st := sPrime) l8 c8 k8
  have APrime : At K mg "_law_prime" sPrime ["_law_urn_here"] := ⟨_, _, FPrime, FPrime.binds (ps := ["_law_urn_here"]) fun _ _ _ _ _ _ us hl => match us, hl with | [_], _ => rfl, PySem.W.mg_of X G a8⟩
  have FItem := fun_mk (st := sItem) l9 c9 k9
  have AItem : At K mg "_law_item" sItem ["_law_urn_here", "_law_p", "_law_n", "_law_words_here"] := ⟨_, _, FItem, FItem.binds (ps := ["_law_urn_here", "_law_p", "_law_n", "_law_words_here"]) fun _ _ _ _ _ _ us hl => match us, hl with | [_, _, _, _], _ => rfl, PySem.W.mg_of X G a9⟩
  have FBody := fun_mk (st := sBody) l10 c10 k10
  have ABody : At K mg "_law_body" sBody ["_law_urn_here", "_law_p", "_law_n", "_law_words_here", "_law_length", "_law_deep", "_law_rounds"] := ⟨_, _, FBody, FBody.binds (ps := ["_law_urn_here", "_law_p", "_law_n", "_law_words_here", "_law_length", "_law_deep", "_law_rounds"]) fun _ _ _ _ _ _ us hl => match us, hl with | [_, _, _, _, _, _, _], _ => rfl, PySem.W.mg_of X G a10⟩
  have FWords := fun_mk (st := sWords) l11 c11 k11
  have AWords : At K mg "_law_words" sWords [] := ⟨_, _, FWords, FWords.binds (ps := []) fun _ _ _ _ _ _ us hl => match us, hl with | [], _ => rfl, PySem.W.mg_of X G a11⟩
  have FSteps := fun_mk (st := sSteps) l12 c12 k12
  have ASteps : At K mg "_law_steps" sSteps ["_law_tree"] := ⟨_, _, FSteps, FSteps.binds (ps := ["_law_tree"]) fun _ _ _ _ _ _ us hl => match us, hl with | [_], _ => rfl, PySem.W.mg_of X G a12⟩
  have FPaths := fun_mk (st := sPaths) l13 c13 k13
  have APaths : At K mg "_law_paths" sPaths ["_law_tree"] := ⟨_, _, FPaths, FPaths.binds (ps := ["_law_tree"]) fun _ _ _ _ _ _ us hl => match us, hl with | [_], _ => rfl, PySem.W.mg_of X G a13⟩
  have FRefused := fun_mk (st := sRefused) l14 c14 k14
  have ARefused : At K mg "_law_refused" sRefused ["_law_tree", "_law_value"] := ⟨_, _, FRefused, FRefused.binds (ps := ["_law_tree", "_law_value"]) fun _ _ _ _ _ _ us hl => match us, hl with | [_, _], _ => rfl, PySem.W.mg_of X G a14⟩
  have FRight := fun_mk (st := sRight) l15 c15 k15
  have ARight : At K mg "_law_right" sRight ["_law_urn_here", "_law_tree"] := ⟨_, _, FRight, FRight.binds (ps := ["_law_urn_here", "_law_tree"]) fun _ _ _ _ _ _ us hl => match us, hl with | [_, _], _ => rfl, PySem.W.mg_of X G a15⟩
  have FLaw := fun_mk (st := sLaw) l16 c16 k16
  have ALaw : At K mg "law" sLaw ["_law_script"] := ⟨_, _, FLaw, FLaw.binds (ps := ["_law_script"]) fun _ _ _ _ _ _ us hl => match us, hl with | [_], _ => rfl, PySem.W.mg_of X G a16⟩
  have gEJ := PySem.W.mg_of X G aEJ
  have gSU := PySem.W.mg_none_of X G zsu
  have gVE := PySem.W.mg_none_of X G zve
  have gE0 := PySem.W.mg_of X G aE0
  have gE1 := PySem.W.mg_of X G aE1
  have gE2 := PySem.W.mg_of X G aE2
  have gE3 := PySem.W.mg_of X G aE3
  have gE4 := PySem.W.mg_of X G aE4
  have gEM := PySem.W.mg_of X G aEM
  rw [show defArgs sEM = (eA "moment" ⟨11, 17, 11, 21⟩ ⟨11, 23, 11, 29⟩) from rfl, show defBody sEM = (eB "moment" "no such moment or step" ⟨12, 8, 12, 13⟩ ⟨12, 8, 12, 15⟩ ⟨12, 8, 12, 24⟩ ⟨12, 25, 12, 49⟩ ⟨12, 8, 12, 50⟩ ⟨12, 8, 12, 50⟩ ⟨13, 8, 13, 12⟩ ⟨13, 8, 13, 19⟩ ⟨13, 22, 13, 28⟩ ⟨13, 8, 13, 28⟩) from rfl, show defScope sEM = eS "moment" from rfl] at lEM
  have TM : ErrTxt l.prog K mg "BadMoment" "moment" CM fM := { nm := nm_moment, gC := gEM, cls := ⟨_, _, _, _, _, _, _, _, _, _, _, _, _, _, _, xEM, (by show PySem.HandSPX.refsVE [.type "ValueError", .type "Exception", .type "BaseException", .type "object"] = true; decide +kernel)⟩, sa := saEM, ga := gEM1, gg := gEM2, noN := nEM, iC := iEM, tC := tEM, kC := kEM, exC := eEM, veC := vEM, tyC := yEM, hdC := hEM, mrC := rEM, suC := uEM, op := zop, gS := gSU, top := ztp, fn := ⟨_, _, _, _, _, _, _, _, _, _, _, _, _, _, _, _, _, _, _, _, _, _, _, _, _, _, _, _, _, _, _, _, lEM, cEM, dEM, wEM, oEM, by decide, qEM⟩ }
  have BM : PySem.W.exmOne K (.ref CM) (.ref CJ) = some true := PySem.W.exm_ref eEJ hEJ yEJ jEM
  have XM : ExcC K CM := ⟨gEM1, gEM2, eEM, hEM, bEM1, bEM2, bEM3, bEM4⟩
  have M : Bl mg := ⟨PySem.W.mg_none_of X G z0, PySem.W.mg_none_of X G z1, PySem.W.mg_none_of X G z2, PySem.W.mg_none_of X G z3, PySem.W.mg_none_of X G z4, PySem.W.mg_none_of X G z5, PySem.W.mg_none_of X G z6, PySem.W.mg_none_of X G z7, PySem.W.mg_none_of X G z8, PySem.W.mg_none_of X G z9, PySem.W.mg_none_of X G z10, PySem.W.mg_none_of X G z11, PySem.W.mg_none_of X G z12, PySem.W.mg_none_of X G z13, PySem.W.mg_none_of X G z14, PySem.W.mg_none_of X G z15⟩
  refine ⟨PySem.W.fnOf "law" "law" (defArgs sLaw) (defBody sLaw) (defScope sLaw) .none kV16 dc16 pm16 an16 cd16 ct16, fun s v => .of_eq rfl, fun base _ _ => ?_⟩
  have hT : Has l.prog w K mg base 1 "_law_take" ["_law_urn_here", "_law_below"] spTake := has_take ATake
  have hO : Has l.prog w K mg base 2 "_law_of" ["_law_urn_here", "_law_items"] (spOf K) := has_of M AOf ATake
  have hI := ok_item M AItem hO (hT.up (by decide))
  have hS : ∀ n, Has l.prog w K mg base (2 * n) "step_count" ["program"] (spTI K (okB n) lens) := ok_steps M ALength AStep_count
  have R : Errs l.prog K mg CJ CM fM C0 C1 C2 C3 C4 := ⟨TM, gEJ, gE0, gE1, gE2, gE3, gE4, BM, XM, kkV, kkO, gVE⟩
  have hE := ok_locE (w := w) (base := base) (n := 4) (k := 12) M ALocate TM (by decide) ((hS 5).up (by decide)) ((ok_btD (k := 0) M AIs_between).up (by decide)) ((ok_place M APlace (ok_length M ALength (hS 4))).up (by decide))
  have hRf := ok_refused (n := 4) (k := 13) M ARefused R hE
  have hR := ok_right (d := 4) (k := 14) M ARight ALocate ((ok_paths M APaths 5 (by decide)).up (by decide)) ((loc_calm hE).up (by decide)) hRf
  have hLaw := ok_law (P := l.prog) (w := w) (base := base) (k := 15) M ALaw ((has_urn M AUrn).up (by decide)) (hT.up (by decide)) ((ok_prime APrime hO).up (by decide)) ((ok_words AWords).up (by decide))
    ((ok_body M ABody (hO.up (k := 3) (by decide)) (hT.up (by decide)) hI 5).up (by decide)) hR ((ok_lsteps M ASteps 5).up (by decide)) (hRf.up (by decide))
  obtain ⟨f, fd, c⟩ := hLaw
  cases hfa.symm.trans c.g
  cases hfa.symm.trans (PySem.W.mg_of X G a16)
  obtain ⟨_, _, _, e⟩ := c.lk
  cases e.symm.trans l16
  exact c.ok
end K07
open PySem PySem.W PyProof.Rows
set_option maxRecDepth 100000 in
set_option maxHeartbeats 0 in
theorem PySem.Challenge.cw_leastjournal_k07_steps_located_holds : PySem.Challenge.rw_leastjournal_k07_steps_located.Holds := by
  w_on; o_law; k_head; (case hw => w_witness2)
  k_fill
  refine Lj.walk_G (l := PySem.Challenge.rw_leastjournal_k07_steps_located) (n := 63) (k := 16) (x := "_law_script") (sp := K07.spLaw) rfl (by decide) rfl ⟨rfl, by decide, by decide⟩ (fun w h Y => PySem.W.kIn_of Y) ?F (fun _ _ a ns hl _ hS => ⟨a, ns, rfl, hS, hl, fun _ => rfl⟩)
  case F =>
    intro w mg fa h KX G hmg
    refine' K07.all_mk KX G hmg ?a0 ?l0 ?c0 ?k0 ?a1 ?l1 ?c1 ?k1 ?a2 ?l2 ?c2 ?k2 ?a3 ?l3 ?c3 ?k3 ?a4 ?l4 ?c4 ?k4 ?a5 ?l5 ?c5 ?k5 ?a6 ?l6 ?c6 ?k6 ?a7 ?l7 ?c7 ?k7 ?a8 ?l8 ?c8 ?k8 ?a9 ?l9 ?c9 ?k9 ?a10 ?l10 ?c10 ?k10 ?a11 ?l11 ?c11 ?k11 ?a12 ?l12 ?c12 ?k12 ?a13 ?l13 ?c13 ?k13 ?a14 ?l14 ?c14 ?k14 ?a15 ?l15 ?c15 ?k15 ?a16 ?l16 ?c16 ?k16 ?z0 ?z1 ?z2 ?z3 ?z4 ?z5 ?z6 ?z7 ?z8 ?z9 ?z10 ?z11 ?z12 ?z13 ?z14 ?z15 ?aEJ ?eEJ ?hEJ ?yEJ ?zsu ?zve ?zop ?ztp ?aE0 ?aE1 ?aE2 ?aE3 ?aE4 ?aEM ?xEM ?saEM ?gEM1 ?gEM2 ?nEM ?iEM ?tEM ?kEM ?eEM ?vEM ?yEM ?hEM ?rEM ?uEM ?lEM ?cEM ?dEM ?wEM ?oEM ?qEM ?jEM ?bEM1 ?bEM2 ?bEM3 ?bEM4 ?kkV ?kkO
    (case a0 => k_is); (case l0 => k_is); (case c0 => k_is); (case k0 => k_is); (case a1 => k_is); (case l1 => k_is); (case c1 => k_is); (case k1 => k_is); (case a2 => k_is); (case l2 => k_is); (case c2 => k_is); (case k2 => k_is); (case a3 => k_is); (case l3 => k_is); (case c3 => k_is); (case k3 => k_is); (case a4 => k_is); (case l4 => k_is); (case c4 => k_is); (case k4 => k_is); (case a5 => k_is); (case l5 => k_is); (case c5 => k_is); (case k5 => k_is); (case a6 => k_is); (case l6 => k_is); (case c6 => k_is); (case k6 => k_is); (case a7 => k_is); (case l7 => k_is); (case c7 => k_is); (case k7 => k_is); (case a8 => k_is); (case l8 => k_is); (case c8 => k_is); (case k8 => k_is); (case a9 => k_is); (case l9 => k_is); (case c9 => k_is); (case k9 => k_is); (case a10 => k_is); (case l10 => k_is); (case c10 => k_is); (case k10 => k_is); (case a11 => k_is); (case l11 => k_is); (case c11 => k_is); (case k11 => k_is); (case a12 => k_is); (case l12 => k_is); (case c12 => k_is); (case k12 => k_is); (case a13 => k_is); (case l13 => k_is); (case c13 => k_is); (case k13 => k_is); (case a14 => k_is); (case l14 => k_is); (case c14 => k_is); (case k14 => k_is); (case a15 => k_is); (case l15 => k_is); (case c15 => k_is); (case k15 => k_is); (case a16 => k_is); (case l16 => k_is); (case c16 => k_is); (case k16 => k_is); (case z0 => k_is); (case z1 => k_is); (case z2 => k_is); (case z3 => k_is); (case z4 => k_is); (case z5 => k_is); (case z6 => k_is); (case z7 => k_is); (case z8 => k_is); (case z9 => k_is); (case z10 => k_is); (case z11 => k_is); (case z12 => k_is); (case z13 => k_is); (case z14 => k_is); (case z15 => k_is)
    (case aEJ => k_is); (case eEJ => k_is); (case hEJ => k_is); (case yEJ => k_is); (case zsu => k_is); (case zve => k_is); (case zop => k_is); (case ztp => decide +kernel); (case aE0 => k_is); (case aE1 => k_is); (case aE2 => k_is); (case aE3 => k_is); (case aE4 => k_is); (case aEM => k_is); (case xEM => k_is); (case saEM => k_is); (case gEM1 => k_is); (case gEM2 => k_is); (case nEM => k_is); (case iEM => k_is); (case tEM => k_is); (case kEM => k_is); (case eEM => k_is); (case vEM => k_is); (case yEM => k_is); (case hEM => k_is); (case rEM => k_is); (case uEM => ks_is); (case lEM => k_is); (case cEM => k_is); (case dEM => k_is); (case wEM => rfl); (case oEM => first | rfl | decide +kernel); (case qEM => k_is); (case jEM => k_is); (case bEM1 => k_is); (case bEM2 => k_is); (case bEM3 => k_is); (case bEM4 => k_is); (case kkV => kit_is); (case kkO => kit_is)
