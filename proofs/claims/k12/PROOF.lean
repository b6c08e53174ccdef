import PyProof.Rows.All
import Wide.All
import OpenK.AllK
import Wide.FinOn
import HandS.ForMost
import HandS.Wide
import HandS.IsInst
import HandS.Flow
import HandS.Evl
import PyProof.StrBlock2
import HandS.Zip
import HandS.Walk
import HandS.WideBits
import HandS.TupAny
import HandS.Star
import PyProof.EqAt
import PyProof.EqKinds
import PyProof.TupleCall
import KE.KExcSuper
import HandS.ForExc
import HandS.ExcInit
import HandS.ExcIs
import HandS.ExcField
import HandS.ExcValue
import KE.KExcIs
import HandS.Conv
import HandS.Style
import KE.RegKSuper
import KE.RegKIsAll
import PySem.Challenge.RW_leastjournal_k12_plain_runs
set_option Elab.async false
set_option linter.all false
set_option maxRecDepth 100000
namespace Lj
open PySem PySem.Spec PyProof.Rows L2
section
variable {X : Cx}
theorem op_mulS : OpR X (binaryOp .Mult) (fun x y H Q => ∃ z n, x = .str z ∧ y = .int n ∧ MulOk z n ∧ Q (.str (Txt.mul z n)) H) := by
  intro pins s σ H x y v u Q I rx ry h
  obtain ⟨z, n, rfl, rfl, ok, q⟩ := h
  obtain ⟨t, rfl⟩ := rx
  obtain ⟨t', rfl⟩ := ry
  exact SB.mul ok fun t2 k => ⟨.str _, H, I.tok _, ⟨_, rfl⟩, q⟩
end
section
variable {X : Cx} {CX : CXT} {k : Nat} {f : Addr} {fd : FuncData} {ps ks : List Str} {sp : Sp} {E : XK} {x : Str} {p pos : Pos} {kws : List Keyword} {tk : TA}
  {g : List Value → List Value → List Value} {gV : List V → List V → List V}
/-- f(k = v, ..), no positional arguments -/
theorem pe_callK0 (F : FnOk X.prog X.w X.K X.mg X.base CX k f fd ps sp) (hr : Room k X.A) (hg : Gl X x) (hm : X.mg x = some (.ref f)) (hk : PySem.W.keepIn X.K (.ref f) = true) (hb : KBinds X.K fd ps ks g gV) (hx : Passes CX X E)
    (hkw : PK X kws tk) (hall : (backToKw pos (keywordEach kws X.env)).all (·.1.isSome) = true := by rfl) (hks : (backToKw pos (keywordEach kws X.env)).filterMap (·.1) = ks := by rfl)
    (hdb : (x == ("__debug__" : Str)) = false := by decide)
    (hpl : ((backTo pos (starEach [] X.env)).any (·.1) || (backToKw pos (keywordEach kws X.env)).any (·.1.isNone)) = false := by rfl) :
    PE X (.Call (.Name x p) [] kws pos) (fun σ H Q => tk σ H fun zs H1 => sp (gV [] zs) H1 Q E) := by
  refine ⟨fun pins s σ H Q I h => ?_⟩
  refine wpAny_Call_Name_kw (ld_glob I hg hm ?_ hdb)
  refine PySem.W.callWith_KW0 (h₀ := X.base) I.ok.mod.kin hk hall (thn (hkw.run pos pins s σ H _ I h) fun ws s2 ⟨zs, H2, I2, rz, q2⟩ => ⟨I2.kIn, ?_⟩) hpl
  rw [hks]
  exact run_fnk (us := []) (vs := []) F hr hb hx I2 .nil rz q2
end
/-! ### heaps -/
theorem same_new {H : Hp} {p : Addr} {o : HO} (h : H p = none) : Same H (upd H p o) := fun b x e => by
  rw [upd_ne (ne_of_none e h)]
  exact e
/-- all but p stands as before -/
def But (p : Addr) (H H' : Hp) : Prop := ∀ b o, b ≠ p → H b = some o → H' b = some o
theorem But.refl (p : Addr) (H : Hp) : But p H H := fun _ _ _ h => h
theorem But.trans {p : Addr} {H H1 H2 : Hp} (a : But p H H1) (b : But p H1 H2) : But p H H2 := fun c o n h => b c o n (a c o n h)
theorem But.same {p : Addr} {H H' : Hp} (s : Same H H') : But p H H' := fun b o _ h => s b o h
theorem But.new {p q : Addr} {H : Hp} {o : HO} (h : H q = none) : But p H (upd H q o) := But.same (same_new h)
theorem But.upd {p : Addr} {H : Hp} {o : HO} : But p H (upd H p o) := fun b x n e => by
  rw [upd_ne n]
  exact e
theorem But.rd {p a : Addr} {H H' : Hp} {u : HO} (b : But p H H') (n : a ≠ p) (h : Rd H a u) : Rd H' a u := by
  rcases h with h | ⟨o, h⟩
  · exact .inl (b _ _ n h)
  · exact .inr ⟨o, b _ _ n h⟩
theorem But.seq {K : PySem.W.Frag} {p a : Addr} {H H' : Hp} {xs : List V} (b : But p H H') (n : a ≠ p) (h : SqL K H a xs) : SqL K H' a xs := by
  rcases h with h | h
  · exact .inl (b.rd n h)
  · exact .inr h
theorem But.tup {K : PySem.W.Frag} {p a : Addr} {H H' : Hp} {xs : List V} (b : But p H H') (n : a ≠ p) (h : SqT K H a xs) : SqT K H' a xs := by
  rcases h with h | h
  · exact .inl (b.rd n h)
  · exact .inr h
/-! ### the urn: two numbers in a list -/
def wide : Nat := 2 ^ 1000
def Urn (H : Hp) (p : Addr) : Prop := ∃ u v : Int, H p = some (.lst [.int u, .int v]) ∧ 0 ≤ u ∧ u.natAbs < wide ∧ 0 ≤ v ∧ v < 2305843009213693951
theorem Urn.but {p q : Addr} {H H' : Hp} (b : But q H H') (n : p ≠ q) (h : Urn H p) : Urn H' p := by
  obtain ⟨u, v, e, r⟩ := h
  exact ⟨u, v, b _ _ n e, r⟩
theorem Urn.same {p : Addr} {H H' : Hp} (b : Same H H') (h : Urn H p) : Urn H' p := by
  obtain ⟨u, v, e, r⟩ := h
  exact ⟨u, v, b _ _ e, r⟩
theorem Urn.ne {p q : Addr} {H : Hp} (h : Urn H p) (e : H q = none) : q ≠ p := by
  obtain ⟨u, v, e', _⟩ := h
  exact (ne_of_none e' e).symm
theorem Urn.free {p q : Addr} {H H' : Hp} (h : Urn H' p) (b : But p H H') (e : H' q = none) : H q = none := by
  have n := h.ne e
  cases z : H q with
  | none => rfl
  | some o => rw [b _ _ n z] at e; cases e
def spUrn (K : PySem.W.Frag) : Sp := fun vs H Q _ => ∃ (a : Addr) (ns : List Int) (k : Int), vs = [.ref a, .int k] ∧ SqL K H a (ns.map V.int) ∧ 0 ≤ k ∧ k ≤ 1000 ∧
  ∀ H' p, Same H H' → H p = none → Urn H' p → Q (.ref p) H'
def spTake : Sp := fun vs H Q _ => ∃ (p : Addr) (n : Int), vs = [.ref p, .int n] ∧ Urn H p ∧ 0 < n ∧ n.natAbs < wide ∧
  ∀ (d : Int) H', 0 ≤ d → d < n → Urn H' p → But p H H' → Q (.int d) H'
def spOf (K : PySem.W.Frag) : Sp := fun vs H Q _ => ∃ (p q : Addr) (xs : List V), vs = [.ref p, .ref q] ∧ Urn H p ∧ q ≠ p ∧ SqL K H q xs ∧ xs ≠ [] ∧ xs.length ≤ 1000 ∧
  ∀ x H', x ∈ xs → Urn H' p → But p H H' → Q x H'
def urnText : Str := "1" ++ Txt.mul "0" 300
theorem urnText_int : PySem.intText? urnText = some (10 ^ 300) := by decide +kernel
theorem urnText_len : urnText.length ≤ 640 := by decide +kernel
theorem mul_ok0 : MulOk "0" 300 := ⟨by decide, fun _ _ => by decide, fun _ _ => by decide⟩
theorem small {n : Nat} (h : n ≤ 1000) : n ≤ sizeLine := Nat.le_of_lt (small1000 h)
theorem own_lt (c : Int) (b : Bool) : 0 ≤ (if c < 0 then -c else c) % 10 ^ 300 * (if b then 1 else 0) ∧ ((if c < 0 then -c else c) % 10 ^ 300 * (if b then 1 else 0)).natAbs < wide := by
  have h1 : 0 ≤ (if c < 0 then -c else c) % (10 ^ 300 : Int) := Int.emod_nonneg _ (by decide)
  have h2 : (if c < 0 then -c else c) % (10 ^ 300 : Int) < 10 ^ 300 := Int.emod_lt_of_pos _ (by decide)
  generalize (if c < 0 then -c else c) % (10 ^ 300 : Int) = z at h1 h2
  have h3 : (10 ^ 300 : Int) < (wide : Int) := by decide +kernel
  have h4 : 0 < wide := by decide +kernel
  cases b with
  | true =>
    rw [if_pos rfl, Int.mul_one]
    exact ⟨h1, by omega⟩
  | false =>
    rw [if_neg Bool.false_ne_true, Int.mul_zero]
    exact ⟨Int.le_refl 0, h4⟩
theorem ind_bd (b : Bool) : -(2 ^ 64) < (if b then 1 else 0 : Int) ∧ (if b then 1 else 0 : Int) < 2 ^ 64 := by
  cases b
  · exact ⟨by decide, by decide⟩
  · exact ⟨by decide, by decide⟩
def nx (v : Int) : Int := (v * 1181783497276652981 + 12345678910987) % 2305843009213693951
theorem nx0 (v : Int) : 0 ≤ nx v := Int.emod_nonneg _ (by decide)
theorem nx1 (v : Int) : nx v < 2305843009213693951 := Int.emod_lt_of_pos _ (by decide)
def ny (v : Int) : Int := (v * 3202034522624059733 + 1) % 2305843009213693951
theorem ny0 (v : Int) : 0 ≤ ny v := Int.emod_nonneg _ (by decide)
theorem ny1 (v : Int) : ny v < 2305843009213693951 := Int.emod_lt_of_pos _ (by decide)
theorem at_int {ns : List Int} {k : Int} (h0 : 0 ≤ k) (h : k < (ns.length : Int)) : ∃ v : Int, v ∈ ns ∧ atI (ns.map V.int) k = some (.int v) := by
  have hk : k.toNat < ns.length := by omega
  have ek : k = ((k.toNat : Nat) : Int) := by omega
  have q : atI (ns.map V.int) ((k.toNat : Nat) : Int) = some (.int ns[k.toNat]) := atI_nat (by rw [List.getElem?_map, List.getElem?_eq_getElem hk] <;> rfl)
  rw [← ek] at q
  exact ⟨ns[k.toNat], List.getElem_mem hk, q⟩
theorem at_any {xs : List V} {k : Int} (h0 : 0 ≤ k) (h : k < (xs.length : Int)) : ∃ v : V, v ∈ xs ∧ atI xs k = some v := by
  have hk : k.toNat < xs.length := by omega
  have ek : k = ((k.toNat : Nat) : Int) := by omega
  have q : atI xs ((k.toNat : Nat) : Int) = some xs[k.toNat] := atI_nat (List.getElem?_eq_getElem hk)
  rw [← ek] at q
  exact ⟨xs[k.toNat], List.getElem_mem hk, q⟩
theorem iteP {c A B : Prop} [Decidable c] (h : c) (a : A) : if decide c = true then A else B := by
  rw [decide_eq_true h]
  exact a
theorem iteN {c A B : Prop} [Decidable c] (h : ¬ c) (b : B) : if decide c = true then A else B := by
  rw [decide_eq_false h]
  exact b
/-! ### rules with the written part named: for the blocks of comprehensions -/
section
variable {X : Cx} {K : PySem.W.Frag}
theorem ix_tupK (h : X.K = K) : IxR X (rIxT K) := h ▸ ix_tup
theorem ix_listK (h : X.K = K) : IxR X (rIxL K) := h ▸ ix_list
def rLenS (K : PySem.W.Frag) : List V → Hp → VK → Prop := fun xs H Q => ∃ p ys, xs = [.ref p] ∧ (SqL K H p ys ∨ SqT K H p ys) ∧ Q (.int ys.length) H
theorem call_len_seqK (h : X.K = K) : CallR X (.builtin "len") (rLenS K) := h ▸ call_len_seq
end
end Lj
set_option Elab.async false
set_option linter.all false
set_option maxRecDepth 100000
namespace Lj
open PySem PySem.Spec PyProof.Rows L2
/-! ### promises of defs that are called where no repr is under way -/
/-- the def at f keeps sp wherever nothing is being shown -/
structure FnG (P : Program) (w : World) (K : PySem.W.Frag) (mg : Str → Option Value) (base : Heap) (k : Nat) (f : Addr) (fd : FuncData) (ps : List Str) (sp : Sp) : Prop where
  len : ∀ vs H Q E, sp vs H Q E → vs.length = ps.length
  run : ∀ (A : Around) (out : List Env) (s : Shared) (H : Hp) (as : Args) (us : List Value) (vs : List V) (Q : VK) (E : XK), A.guards = some [] → Room k A → Env0 P w K mg base A out s H →
    BindsTo s fd as (ps.zip us) → Vals vs us → sp vs H Q E → codeAny (model P w) A (.call (.ref f) as) (CR CX0 out P w H s Q E) s
section
variable {P : Program} {w : World} {K : PySem.W.Frag} {mg : Str → Option Value} {base : Heap} {j k : Nat} {f : Addr} {fd : FuncData} {ps : List Str} {sp sp' : Sp}
theorem FnG.of (F : FnOk P w K mg base CX0 k f fd ps sp) : FnG P w K mg base k f fd ps sp := ⟨F.len, fun A out s H as us vs Q E _ => F.run A out s H as us vs Q E⟩
theorem FnG.up (F : FnG P w K mg base j f fd ps sp) (h : j ≤ k) : FnG P w K mg base k f fd ps sp := ⟨F.len, fun A out s H as us vs Q E g r => F.run A out s H as us vs Q E g (r.mono h)⟩
theorem FnG.weak (F : FnG P w K mg base k f fd ps sp) (h : ∀ vs H Q E, sp' vs H Q E → sp vs H Q E) : FnG P w K mg base k f fd ps sp' :=
  ⟨fun vs H Q E q => F.len vs H Q E (h _ _ _ _ q), fun A out s H as us vs Q E g r e b v q => F.run A out s H as us vs Q E g r e b v (h _ _ _ _ q)⟩
/-- by the def's body, where nothing is being shown -/
theorem FnG.body {x qual : Str} {st : Stmt} {N : List Str} (F : Fun K x qual st f fd) (S : FnScope N ps (defScope st)) (len : ∀ vs H Q E, sp vs H Q E → vs.length = ps.length)
    (hb : ∀ (cdv : Value) (A : Around) (out : List Env) (s : Shared) (H : Hp) (vs : List V) (Q : VK) (E : XK), A.guards = some [] → Room k (A.deeper (envOfC qual (defScope st) s.heap.objs.size f cdv)) → sp vs H Q E →
      ∃ t, PSs (cxOf CX0 P w K mg base N qual (defScope st) f cdv A out s H E).nox (defBody st) t ∧ t { nx := fun _ H' => Q .non H', rt := Q } (start N vs) H) : FnG P w K mg base (k + 1) f fd ps sp := by
  obtain ⟨c0, c1, c2, c3, c4, c5, cd, c6, c7, rfl, look, code⟩ := F.ex
  refine ⟨len, fun A out s H as us vs Q E hg room env bind vals want => ?_⟩
  have ln := len _ _ _ _ want
  have old : ∀ b o, base.get? b = some o → s.heap.get? b = some o := fun b o e => (env.bs b o e).1
  have here : K.In s.heap := env.mod.kin.keeps old
  refine codeAny_call_function room.depth (here _ _ look) rfl S.co S.gen rfl (PySem.W.codeRec_of here code) (bind _ _ _ _ ?_)
  refine wpAny_newFunctionEnv_cells S.kind (fun ⟨n, v⟩ m => (S.par n (List.of_mem_zip m).1).elim .inl fun c => .inr ⟨c, PySem.W.cellsFrom_some _ _ _ (.inl c)⟩) fun en he s1 x => ?_
  subst he
  refine ⟨(env.mod.nolimit.keeps old).keeps x.toInCall.keep, codeAny_func ?_⟩
  obtain ⟨t, rule, holds⟩ := hb cd A out s H vs Q E hg (room.deeper _) want
  have start0 := inv_start (CX := CX0) (E := E) S room.hd env ln vals x
  refine wpAny_mono (rule.nox.run [] s1 (start N vs) H _ start0 holds) (fun r s' z => ?_) fun _ _ z => z
  match r, z with
  | .ret u, ⟨v, σ', H', J, rv, q⟩ => exact ⟨v, H', J.os, J.bare, J.base, J.hok, rv, q⟩
  | .next, ⟨σ', H', J, q⟩ => exact ⟨.non, H', J.os, J.bare, J.base, J.hok, rfl, q⟩
  | .brk, ⟨_, _, _, q⟩ => exact False.elim q
  | .cont, ⟨_, _, _, q⟩ => exact False.elim q
end
/-- where a def stands, under the name x, with its promise -/
structure Cal (P : Program) (w : World) (K : PySem.W.Frag) (mg : Str → Option Value) (base : Heap) (k : Nat) (x : Str) (ps : List Str) (f : Addr) (fd : FuncData) (sp : Sp) : Prop where
  ok : FnG P w K mg base k f fd ps sp
  kp : PySem.W.keepIn K (.ref f) = true
  b : Binds K fd ps []
  g : mg x = some (.ref f)
  lk : ∃ oc od osl, K.lookup f = some ⟨oc, od, .func fd, osl⟩
theorem fun_lk {K : PySem.W.Frag} {x qual : Str} {st : Stmt} {f : Addr} {fd : FuncData} (F : Fun K x qual st f fd) : ∃ oc od osl, K.lookup f = some ⟨oc, od, .func fd, osl⟩ := by
  obtain ⟨c0, c1, c2, c3, c4, c5, cd, c6, c7, e, look, code⟩ := F.ex
  exact ⟨_, _, _, look⟩
def Has (P : Program) (w : World) (K : PySem.W.Frag) (mg : Str → Option Value) (base : Heap) (k : Nat) (x : Str) (ps : List Str) (sp : Sp) : Prop := ∃ f fd, Cal P w K mg base k x ps f fd sp
/-- the def of the text st stands under the name x -/
def At (K : PySem.W.Frag) (mg : Str → Option Value) (x : Str) (st : Stmt) (ps : List Str) : Prop := ∃ f fd, Fun K x x st f fd ∧ Binds K fd ps [] ∧ mg x = some (.ref f)
section
variable {P : Program} {w : World} {K : PySem.W.Frag} {mg : Str → Option Value} {base : Heap} {j k : Nat} {x : Str} {ps : List Str} {sp sp' : Sp}
theorem Has.up (h : Has P w K mg base j x ps sp) (l : j ≤ k) : Has P w K mg base k x ps sp := by
  obtain ⟨f, fd, c⟩ := h
  exact ⟨f, fd, c.ok.up l, c.kp, c.b, c.g, c.lk⟩
theorem Has.weak (h : Has P w K mg base k x ps sp) (i : ∀ vs H Q E, sp' vs H Q E → sp vs H Q E) : Has P w K mg base k x ps sp' := by
  obtain ⟨f, fd, c⟩ := h
  exact ⟨f, fd, c.ok.weak i, c.kp, c.b, c.g, c.lk⟩
theorem Has.by {st : Stmt} {N : List Str} (F : At K mg x st ps) (S : FnScope N ps (defScope st)) (len : ∀ vs H Q E, sp vs H Q E → vs.length = ps.length)
    (hb : ∀ (f : Addr) (cdv : Value) (A : Around) (out : List Env) (s : Shared) (H : Hp) (vs : List V) (Q : VK) (E : XK), A.guards = some [] → Room k (A.deeper (envOfC x (defScope st) s.heap.objs.size f cdv)) → sp vs H Q E →
      ∃ t, PSs (cxOf CX0 P w K mg base N x (defScope st) f cdv A out s H E).nox (defBody st) t ∧ t { nx := fun _ H' => Q .non H', rt := Q } (start N vs) H) : Has P w K mg base (k + 1) x ps sp := by
  obtain ⟨f, fd, F, b, g⟩ := F
  exact ⟨f, fd, .body F S len (hb f), F.kp, b, g, fun_lk F⟩
end
/-- the def behind a name is the text's -/
theorem Cal.text {P : Program} {w : World} {K : PySem.W.Frag} {mg : Str → Option Value} {base : Heap} {k : Nat} {x : Str} {ps qs : List Str} {f : Addr} {fd : FuncData} {sp : Sp} {st : Stmt} (c : Cal P w K mg base k x ps f fd sp) (F : At K mg x st qs) : Fun K x x st f fd := by
  obtain ⟨f2, fd2, F2, _, g2⟩ := F
  have e := c.g.symm.trans g2
  cases e
  obtain ⟨_, _, _, l1⟩ := c.lk
  obtain ⟨_, _, _, l2⟩ := fun_lk F2
  have e := l1.symm.trans l2
  cases e
  exact F2
section
variable {X : Cx} {k : Nat} {x : Str} {ps ks : List Str} {f : Addr} {fd : FuncData} {sp : Sp} {p pos : Pos} {e : Expr} {es : List Expr} {kws : List Keyword} {t tk : TA}
  {g : List Value → List Value → List Value} {gV : List V → List V → List V}
def tCal (sp : Sp) (t : TA) : TE := fun σ H Q => t σ H fun vs H1 => sp vs H1 Q E0
def tCal0 (sp : Sp) : TE := fun _ H Q => sp [] H Q E0
def tCalK (sp : Sp) (gV : List V → List V → List V) (t tk : TA) : TE := fun σ H Q => t σ H fun vs H1 => tk σ H1 fun zs H2 => sp (gV vs zs) H2 Q E0
theorem cal_run {pins : List (Addr × Obj)} {σ : L2.St} {H : Hp} {s : Shared} {Q : VK} {us ws zs : List Value} {vs : List V} {kw : List (Str × Value)} {s2 : Shared} (c : FnG X.prog X.w X.K X.mg X.base k f fd ps sp) (hg : X.A.guards = some []) (hr : Room k X.A)
    (I : Inv X pins σ H s) (bind : BindsTo s fd ⟨us, kw⟩ (ps.zip zs)) (vals : Vals vs zs) (h : sp vs H Q E0) : wpAny (model X.prog X.w) X.A (call (.ref f) us kw) (EP X pins σ Q) X.xe s := by
  refine wpAny_call (codeAny_mono (c.run X.A X.stack s H ⟨us, kw⟩ zs vs Q E0 hg hr I.env0 bind vals h) fun r s' z => ?_)
  match r, z with
  | .error _, z => exact z.elim
  | .ok (.ret _), z => exact I.after z
  | .ok .next, z => exact z.elim
  | .ok .brk, z => exact z.elim
  | .ok .cont, z => exact z.elim
/-- f(e, ..) -/
theorem pe_cal (c : Cal X.prog X.w X.K X.mg X.base k x ps f fd sp) (hg : X.A.guards = some []) (hr : Room k X.A) (gl : Gl X x) (ha : PA X (e :: es) t) (hdb : (x == ("__debug__" : Str)) = false := by decide)
    (he : starEach (e :: es) X.env = (false, eval e X.env) :: starEach es X.env := by rfl) (hpl : (backTo pos (starEach es X.env)).any (·.1) = false := by rfl) :
    PE X (.Call (.Name x p) (e :: es) [] pos) (tCal sp t) := by
  refine ⟨fun pins s σ H Q I h => wpAny_Call_Name_kw (ld_glob I gl c.g ?_ hdb)⟩
  refine PySem.W.callWith_K (h₀ := X.base) I.ok.mod.kin c.kp (thn (ha.run pos pins s σ H _ I h) fun us s1 ⟨vs, H1, I1, r, q⟩ => ⟨I1.kIn, ?_⟩) he hpl
  have ln : (us ++ []).length = ps.length := by
    rw [List.append_nil, ← r.length]
    exact c.ok.len _ _ _ _ q
  have bd := c.b s1 us I1.kIn ln
  rw [List.append_nil] at bd
  exact cal_run (ws := []) (s2 := s1) c.ok hg hr I1 bd r q
/-- f() -/
theorem pe_cal0 (c : Cal X.prog X.w X.K X.mg X.base k x ps f fd sp) (hg : X.A.guards = some []) (hr : Room k X.A) (gl : Gl X x) (hdb : (x == ("__debug__" : Str)) = false := by decide) :
    PE X (.Call (.Name x p) [] [] pos) (tCal0 sp) := by
  refine ⟨fun pins s σ H Q I h => wpAny_Call_Name_kw (ld_glob I gl c.g ?_ hdb)⟩
  have ln := c.ok.len _ _ _ _ h
  exact PySem.W.callWith_K0 I.kIn c.kp (cal_run (ws := []) (zs := []) (s2 := s) c.ok hg hr I (c.b s [] I.kIn ln) .nil h)
/-- f(e, .., n = v, ..) and f(n = v, ..) -/
theorem pe_calK (c : Cal X.prog X.w X.K X.mg X.base k x ps f fd sp) (hb : KBinds X.K fd ps ks g gV) (hg : X.A.guards = some []) (hr : Room k X.A) (gl : Gl X x) (ha : PA X (e :: es) t) (hkw : PK X kws tk)
    (hall : (backToKw pos (keywordEach kws X.env)).all (·.1.isSome) = true := by rfl) (hks : (backToKw pos (keywordEach kws X.env)).filterMap (·.1) = ks := by rfl) (hdb : (x == ("__debug__" : Str)) = false := by decide)
    (he : starEach (e :: es) X.env = (false, eval e X.env) :: starEach es X.env := by rfl)
    (hpl : ((backTo pos (starEach (e :: es) X.env)).any (·.1) || (backToKw pos (keywordEach kws X.env)).any (·.1.isNone)) = false := by rfl) :
    PE X (.Call (.Name x p) (e :: es) kws pos) (tCalK sp gV t tk) := by
  refine ⟨fun pins s σ H Q I h => wpAny_Call_Name_kw (ld_glob I gl c.g ?_ hdb)⟩
  refine PySem.W.callWith_KW (h₀ := X.base) I.ok.mod.kin c.kp hall (thn (ha.run pos pins s σ H _ I h) fun us s1 ⟨vs, H1, I1, r, q⟩ => ?_) hpl he
  refine thn (hkw.run pos pins s1 σ H1 _ I1 q) fun ws s2 ⟨zs, H2, I2, rz, q2⟩ => ⟨I2.kIn, ?_⟩
  rw [hks]
  have r2 := hb.rel r rz
  exact cal_run (ws := []) (s2 := s2) c.ok hg hr I2 (hb.to s2 us ws I2.kIn (by rw [← r2.length]; exact c.ok.len _ _ _ _ q2)) r2 q2
theorem pe_calK0 (c : Cal X.prog X.w X.K X.mg X.base k x ps f fd sp) (hb : KBinds X.K fd ps ks g gV) (hg : X.A.guards = some []) (hr : Room k X.A) (gl : Gl X x) (hkw : PK X kws tk)
    (hall : (backToKw pos (keywordEach kws X.env)).all (·.1.isSome) = true := by rfl) (hks : (backToKw pos (keywordEach kws X.env)).filterMap (·.1) = ks := by rfl) (hdb : (x == ("__debug__" : Str)) = false := by decide)
    (hpl : ((backTo pos (starEach [] X.env)).any (·.1) || (backToKw pos (keywordEach kws X.env)).any (·.1.isNone)) = false := by rfl) :
    PE X (.Call (.Name x p) [] kws pos) (tCalK sp gV tNil tk) := by
  refine ⟨fun pins s σ H Q I h => wpAny_Call_Name_kw (ld_glob I gl c.g ?_ hdb)⟩
  refine PySem.W.callWith_KW0 (h₀ := X.base) I.ok.mod.kin c.kp hall (thn (hkw.run pos pins s σ H _ I h) fun ws s2 ⟨zs, H2, I2, rz, q2⟩ => ⟨I2.kIn, ?_⟩) hpl
  rw [hks]
  have r2 := hb.rel (vs := []) (us := []) .nil rz
  exact cal_run (ws := []) (s2 := s2) c.ok hg hr I2 (hb.to s2 [] ws I2.kIn (by rw [← r2.length]; exact c.ok.len _ _ _ _ q2)) r2 q2
end
/-! ### repr of data -/
theorem repr_flat {P : Program} {w : World} {A : Around} {E : Value → Shared → Prop} {s : Shared} {u : Value} {d : PyData} {as : List Addr} {Q : Value → Shared → Prop} (r : Reads s.heap u d as) (sh : d.showable = true) (nd : d.hasDict = false) (hg : A.guards = some []) (hu : A.units + (d.depth + 1) < cLine) (sz : d.shown.length ≤ sizeLine)
    (hQ : ∀ h' t tk, (∀ b o, s.heap.get? b = some o → h'.get? b = some o) → Q (.str d.shown t) { s with heap := h', toks := tk }) : wpAny (model P w) A (call (.builtin "repr") [u]) Q E s := by
  have no : ∀ b o, s.heap.get? b = some o → s.heap.get? b = some o := fun _ _ e => e
  cases r with
  | none => exact _root_.PySem.P.repr_of_none (hQ s.heap s.toks (s.toks + 1) no)
  | bool b =>
    refine _root_.PySem.P.repr_of_bool ?_
    cases b
    · exact hQ s.heap s.toks (s.toks + 1) no
    · exact hQ s.heap s.toks (s.toks + 1) no
  | int i t => exact _root_.PySem.P.repr_of_int (of_decide_eq_true sh) (hQ s.heap s.toks (s.toks + 1) no)
  | str x t => exact _root_.PySem.P.repr_of_str (hQ s.heap s.toks (s.toks + 1) no) sz
  | list a b c d => exact PySem.repr_of_reads' (.list a b c d) sh (fun z => by rw [nd] at z; cases z) hg hu no (fun h' t tk z => hQ h' t tk z) sz
  | tuple a b c d => exact PySem.repr_of_reads' (.tuple a b c d) sh (fun z => by rw [nd] at z; cases z) hg hu no (fun h' t tk z => hQ h' t tk z) sz
  | dict a b c d e => cases nd
section
variable {X : Cx} {k : Nat}
/-- repr(x), x data without dicts -/
theorem call_reprD (hg : X.A.guards = some []) (hr : Room k X.A) : CallR X (.builtin "repr") (fun xs H Q => ∃ x d, xs = [x] ∧ Dp X.K H x d ∧ d.showable = true ∧ d.hasDict = false ∧ d.depth ≤ 64 ∧ d.shown.length ≤ sizeLine ∧ Q (.str d.shown) H) := by
  intro pins s σ H xs us Q I r h
  obtain ⟨x, d, rfl, dp, sh, nd, de, sz, q⟩ := h
  obtain ⟨u, rfl, ru⟩ := r.one
  obtain ⟨as, rd⟩ := Dp.reads I d x u dp ru
  have un := hr.un
  exact repr_flat rd sh nd hg (by omega) sz fun h' t tk keep => ⟨.str _, H, I.kept keep, ⟨_, rfl⟩, q⟩
end
def rRepr (K : PySem.W.Frag) : List V → Hp → VK → Prop := fun xs H Q => ∃ x d, xs = [x] ∧ Dp K H x d ∧ d.showable = true ∧ d.hasDict = false ∧ d.depth ≤ 64 ∧ d.shown.length ≤ sizeLine ∧ Q (.str d.shown) H
theorem call_reprDK {X : Cx} {K : PySem.W.Frag} {k : Nat} (h : X.K = K) (hg : X.A.guards = some []) (hr : Room k X.A) : CallR X (.builtin "repr") (rRepr K) := h ▸ call_reprD hg hr
/-! ### the end: the law's promise where the claim's caller calls it -/
theorem end_call {P : Program} {w : World} {K : PySem.W.Frag} {mg mb : Str → Option Value} {k : Nat} {fa a : Addr} {fd : FuncData} {x : Str} {sp : Sp} {s : Shared} {vs : List Value} {ns : List Int}
    (kin : K.In s.heap) (glob : s.heap.Ns mainGlobals mg) (blt : s.heap.Ns builtinsNs mb) (same : ∀ x : Str, x ≠ "__name__" → mb x = bootBuiltins x) (lim : s.heap.NoLimit) (gens : s.gens = #[])
    (obj : s.heap.get? a = some { cls := .type "list", data := .seq vs.toArray }) (numb : IntsAre vs ns) (short : ns.length ≤ sizeLine) (room : Room k callerA)
    (F : ∀ base : Heap, K.In base → base.Ns mainGlobals mg → FnG P w K mg base k fa fd [x] sp) (bind : ∀ (s : Shared) (u : Value), BindsTo s fd ⟨[u], []⟩ [(x, u)])
    (want : ∀ H : Hp, Only H → SqL K H a (ns.map V.int) → sp [.ref a] H (fun v _ => v = .bl true) fun _ _ _ => False) :
    codeAny (model P w) callerA (.call (.ref fa) ⟨[.ref a], []⟩) (fun r s' => r = .ok (.ret (.bool true)) ∧ OldK s.heap s'.heap ∧ s'.os = s.os ∧ AllBare s'.gens) s := by
  have vals := vals_ints numb
  -- one step: whatever part H of the script's object is tracked
  have go : ∀ H : Hp, Only H → SqL K H a (ns.map V.int) → HOk P w H s.heap → (∀ b, H b ≠ none → b = a ∧ K.lookup a = none) →
      codeAny (model P w) callerA (.call (.ref fa) ⟨[.ref a], []⟩) (fun r s' => r = .ok (.ret (.bool true)) ∧ OldK s.heap s'.heap ∧ s'.os = s.os ∧ AllBare s'.gens) s := by
    intro H only sq hok at1
    have untracked : ∀ {b : Addr} {o : Obj} {es : Array DictEntry} {n : Nat}, s.heap.get? b = some o → o.data = .dict es n → H b = none := fun {b o es n} e d => by
      by_cases z : H b = none
      · exact z
      · have e2 := (at1 b z).1
        subst e2
        rw [obj] at e
        cases e
        cases d
    have names : ∀ {b : Addr} {m : Str → Option Value}, s.heap.Ns b m → (hidT s.heap H).Ns b m := fun {b m} ⟨o, es, n, e, d, r⟩ => ⟨o, es, n, hidT_get e (untracked e d), d, r⟩
    have kin2 : K.In (hidT s.heap H) := fun b o e => by
      refine hidT_get (kin b o e) ?_
      by_cases z : H b = none
      · exact z
      · obtain ⟨z1, z2⟩ := at1 b z
        rw [z1, z2] at e
        cases e
    obtain ⟨mc, l1, l2⟩ := lim
    have env : Env0 P w K mg (hidT s.heap H) callerA [] s H :=
      ⟨rfl, ⟨kin2, names glob, ⟨mb, names blt, same⟩, ⟨mc, names l1, l2⟩⟩, fun b o e => of_hidT e, Nat.le_of_eq (hidT_size _ _), trivial, fun b m => absurd (show b ∈ ([] : List Addr) from m) List.not_mem_nil, hok, AllBare.of_eq gens⟩
    refine codeAny_mono ((F _ kin2 (names glob)).run callerA [] s H ⟨[.ref a], []⟩ [.ref a] [.ref a] _ _ rfl room env (bind s (.ref a)) (.cons rfl .nil) (want H only sq)) fun r s' z => ?_
    match r, z with
    | .error _, z => exact z.elim
    | .ok .next, z => exact z.elim
    | .ok .brk, z => exact z.elim
    | .ok .cont, z => exact z.elim
    | .ok (.ret u), ⟨v, H', os, bare, un, hok2, rv, q⟩ =>
      have q : v = .bl true := q
      subst q
      obtain rfl : u = Value.bool true := rv
      refine ⟨rfl, OldK.of_keep fun b o e => ?_, os, bare⟩
      by_cases z : H b = none
      · exact un.keep b o e z (fun m => absurd (show b ∈ ([] : List Addr) from m) List.not_mem_nil) List.not_mem_nil
      · rcases only b with y | ⟨ob, xs, y⟩
        · exact absurd y z
        · have e1 := (hok b _ y).1
          have e2 := (hok2 b _ (un.frzs b ob _ y)).1
          rw [e] at e1
          cases e1
          exact e2
  by_cases hk : K.lookup a = none
  · refine go (fun b => if b = a then some (.frz { cls := .type "list", data := .seq vs.toArray } (.lst (ns.map V.int))) else none) (fun b => ?_) (.inl (.inr ⟨_, if_pos rfl⟩)) (fun b u e => ?_) (fun b e => ?_)
    · by_cases y : b = a
      · exact .inr ⟨_, _, if_pos y⟩
      · exact .inl (if_neg y)
    · by_cases y : b = a
      · cases (if_pos y).symm.trans e
        subst y
        exact ⟨obj, by rw [List.length_map]; exact short, vs, _, vals, obj⟩
      · cases (if_neg y).symm.trans e
    · by_cases y : b = a
      · exact ⟨y, hk⟩
      · exact absurd (if_neg y) e
  · obtain ⟨o, ho⟩ := Option.ne_none_iff_exists'.mp hk
    have e := kin a o ho
    rw [obj] at e
    cases e
    refine go (fun _ => none) (fun _ => .inl rfl) (.inr ⟨_, vs.toArray, _, ho, rfl, rfl, rfl, ?_, vals⟩) (fun b u e => by cases e) (fun b e => absurd rfl e)
    rw [List.size_toArray, numb.length]
    exact short
theorem walk_G {l : PySem.W.OpenLaw} {n k : Nat} {q : Program} {loose : List Str} {XP : (Str → Option Value) → Heap → Prop} {YP : World → Heap → Prop} {d : DefRec} {K : Params → PySem.W.Frag} {sp : PySem.W.Frag → Sp} {x : Str}
    (hn : l.most = some n) (hn2 : n ≤ sizeLine) (hdf : d.params.defaults = []) (hr : Room k callerA) (hY : ∀ (w : World) (h : Heap), YP w h → (K w.params).In h)
    (F : ∀ (w : World) (mg : Str → Option Value) (fa : Addr) (h : Heap), (K w.params).In h → h.Ns mainGlobals mg → mg d.name = some (.ref fa) →
      ∃ fd : FuncData, (∀ (s : Shared) (u : Value), BindsTo s fd ⟨[u], []⟩ [(x, u)]) ∧ ∀ base : Heap, (K w.params).In base → base.Ns mainGlobals mg → FnG l.prog w (K w.params) mg base k fa fd [x] (sp (K w.params)))
    (want : ∀ (K : PySem.W.Frag) (H : Hp) (a : Addr) (ns : List Int), ns.length ≤ n → Only H → SqL K H a (ns.map V.int) → sp K [.ref a] H (fun v _ => v = .bl true) fun _ _ _ => False) :
    PySem.W.WalkO q loose XP YP l.row.toRowW d [] (fun f vs => PySem.call f vs) := by
  refine Att.attach_call hn hdf fun w s0 s mg mb fa o pm cd doc a vs ns G Y _ _ _ hmg obj numb short gens => ?_
  have kin := hY w _ Y
  obtain ⟨fd, bind, ok⟩ := F w mg fa _ kin G.T.g hmg
  exact end_call kin G.T.g G.T.b G.T.builtins G.T.nolimit gens obj numb (Nat.le_trans short hn2) hr ok bind fun H o sq => want _ H a ns short o sq
end Lj
set_option Elab.async false
set_option linter.all false
set_option maxRecDepth 100000
namespace Lj
open PySem PySem.Spec PyProof.Rows L2
/-- the built-ins are not hidden by names of the module -/
structure Bl (mg : Str → Option Value) : Prop where
  len_ : mg "len" = none
  abs_ : mg "abs" = none
  int_ : mg "int" = none
  range_ : mg "range" = none
  max_ : mg "max" = none
  min_ : mg "min" = none
  all_ : mg "all" = none
  sum_ : mg "sum" = none
  list_ : mg "list" = none
  tuple_ : mg "tuple" = none
  isinstance_ : mg "isinstance" = none
  bool_ : mg "bool" = none
  repr_ : mg "repr" = none
  enumerate_ : mg "enumerate" = none
  zip_ : mg "zip" = none
  divmod_ : mg "divmod" = none
theorem Has.none {P : Program} {w : World} {K : PySem.W.Frag} {mg : Str → Option Value} {base : Heap} {k : Nat} {x : Str} {ps : List Str} {sp : Sp} {st : Stmt} (F : At K mg x st ps) (no : ∀ vs H Q E, ¬ sp vs H Q E) : Has P w K mg base k x ps sp := by
  obtain ⟨f, fd, F, b, g⟩ := F
  exact ⟨f, fd, ⟨fun vs H Q E h => absurd h (no vs H Q E), fun A out s H as us vs Q E _ _ _ _ _ h => absurd h (no vs H Q E)⟩, F.kp, b, g, fun_lk F⟩
/-! ### trees: instructions -/
inductive Tr where
  | op (w : Str) (as : List Int)
  | loop (k : Int) (b : List Tr)
mutual
def Tr.len : Tr → Int
  | .op _ _ => 1
  | .loop k b => k * lens b
def lens : List Tr → Int
  | [] => 0
  | t :: r => t.len + lens r
end
mutual
def Tr.inn : Tr → Int
  | .op _ _ => 0
  | .loop _ b => (b.length : Int) + inns b
def inns : List Tr → Int
  | [] => 0
  | t :: r => t.inn + inns r
end
def szs (b : List Tr) : Int := (b.length : Int) + inns b
mutual
def Tr.dep : Tr → Int
  | .op _ _ => 0
  | .loop _ b => 1 + deps b
def deps : List Tr → Int
  | [] => 0
  | t :: r => if t.dep > deps r then t.dep else deps r
end
mutual
def Tr.cnt (w : Str) : Tr → Int
  | .op u _ => if u = w then 1 else 0
  | .loop k b => k * cnts w b
def cnts (w : Str) : List Tr → Int
  | [] => 0
  | t :: r => t.cnt w + cnts w r
end
mutual
/-- what is executed, one after another -/
def Tr.ex : Tr → List Tr
  | .op w as => [.op w as]
  | .loop k b => (List.replicate k.toNat (exs b)).flatten
def exs : List Tr → List Tr
  | [] => []
  | t :: r => t.ex ++ exs r
end
mutual
/-- loops at most n deep, the words of the others not loop -/
def Tr.wf : Tr → Nat → Prop
  | .op w _, _ => w ≠ "loop"
  | .loop _ _, 0 => False
  | .loop k b, n + 1 => 0 ≤ k ∧ k ≤ 10 ^ 18 ∧ b.length ≤ 1000 ∧ wfs b n
def wfs : List Tr → Nat → Prop
  | [], _ => True
  | t :: r, n => t.wf n ∧ wfs r n
end
/-- a body for functions that may go n - 1 loops down -/
def okB : Nat → List Tr → Prop
  | 0, _ => False
  | n + 1, b => wfs b n ∧ b.length ≤ 1000
theorem lens_map : ∀ b : List Tr, lens b = (b.map Tr.len).sum
  | [] => rfl
  | t :: r => by rw [lens, lens_map r, List.map_cons, List.sum_cons]
theorem inns_map : ∀ b : List Tr, inns b = (b.map Tr.inn).sum
  | [] => rfl
  | t :: r => by rw [inns, inns_map r, List.map_cons, List.sum_cons]
theorem cnts_map (w : Str) : ∀ b : List Tr, cnts w b = (b.map (Tr.cnt w)).sum
  | [] => rfl
  | t :: r => by rw [cnts, cnts_map w r, List.map_cons, List.sum_cons]
theorem exs_map : ∀ b : List Tr, exs b = (b.map Tr.ex).flatten
  | [] => rfl
  | t :: r => by rw [exs, exs_map r, List.map_cons, List.flatten_cons]
theorem wfs_get : ∀ {b : List Tr} {n i : Nat} {t : Tr}, wfs b n → b[i]? = some t → t.wf n
  | [], _, _, _, _, e => by simp at e
  | t :: r, n, 0, u, h, e => by
    cases e
    rw [wfs] at h
    exact h.1
  | t :: r, n, i + 1, u, h, e => by
    rw [wfs] at h
    exact wfs_get (i := i) h.2 e
theorem wfs_all : ∀ {b : List Tr} {n : Nat}, (∀ t ∈ b, t.wf n) → wfs b n
  | [], _, _ => by rw [wfs]; trivial
  | t :: r, n, h => by
    rw [wfs]
    exact ⟨h t List.mem_cons_self, wfs_all fun u m => h u (List.mem_cons_of_mem _ m)⟩
theorem okB_loop {b b' : List Tr} {n i : Nat} {k : Int} (h : okB (n + 1) b) (e : b[i]? = some (.loop k b')) : 0 ≤ k ∧ k ≤ 10 ^ 18 ∧ okB n b' := by
  have z := wfs_get h.1 e
  cases n with
  | zero => rw [Tr.wf] at z; exact z.elim
  | succ m =>
    rw [Tr.wf] at z
    exact ⟨z.1, z.2.1, z.2.2.2, z.2.2.1⟩
theorem okB_op {b : List Tr} {n i : Nat} {w : Str} {as : List Int} (h : okB (n + 1) b) (e : b[i]? = some (.op w as)) : w ≠ "loop" := by
  have z := wfs_get h.1 e
  rw [Tr.wf] at z
  exact z
theorem at0 {x : V} {xs : List V} : atI (x :: xs) 0 = some x := atI_nat (j := 0) rfl
theorem sum_next {f : Tr → Int} {b : List Tr} {i : Nat} {t : Tr} (e : b[i]? = some t) : ((b.take (i + 1)).map f).sum = ((b.take i).map f).sum + f t := by
  rw [List.take_add_one, e, List.map_append, List.sum_append]
  show _ + (f t + 0) = _
  rw [Int.add_zero]
theorem map_next {α : Type} {f : Tr → α} {b : List Tr} {i : Nat} {t : Tr} (e : b[i]? = some t) : (b.take (i + 1)).map f = (b.take i).map f ++ [f t] := by
  rw [List.take_add_one, e, List.map_append]
  rfl
/-! ### trees in the heap -/
def Kt (H H' : Hp) : Prop := ∀ a xs, Rd H a (.tup xs) → Rd H' a (.tup xs)
theorem Kt.refl (H : Hp) : Kt H H := fun _ _ h => h
theorem Kt.trans {H H1 H2 : Hp} (a : Kt H H1) (b : Kt H1 H2) : Kt H H2 := fun c o h => b c o (a c o h)
theorem Kt.same {H H' : Hp} (s : Same H H') : Kt H H' := fun a xs h => by
  rcases h with h | ⟨o, h⟩
  · exact .inl (s _ _ h)
  · exact .inr ⟨o, s _ _ h⟩
theorem Kt.but {p : Addr} {H H' : Hp} {xs : List V} (b : But p H H') (e : H p = some (.lst xs)) : Kt H H' := fun a ys h => by
  refine b.rd (fun z => ?_) h
  subst z
  rcases h with h | ⟨o, h⟩
  · rw [e] at h; cases h
  · rw [e] at h; cases h
theorem Urn.kt {p : Addr} {H H' : Hp} (u : Urn H p) (b : But p H H') : Kt H H' := by
  obtain ⟨_, _, e, _⟩ := u
  exact Kt.but b e
theorem Kt.sq {K : PySem.W.Frag} {H H' : Hp} {a : Addr} {xs : List V} (k : Kt H H') (h : SqT K H a xs) : SqT K H' a xs := by
  rcases h with h | h
  · exact .inl (k _ _ h)
  · exact .inr h
mutual
def TrAt (K : PySem.W.Frag) (H : Hp) : Tr → V → Prop
  | .op w as, v => ∃ a, v = .ref a ∧ SqT K H a (.str w :: as.map V.int)
  | .loop k b, v => ∃ a c vs, v = .ref a ∧ SqT K H a [.str "loop", .int k, .ref c] ∧ SqT K H c vs ∧ TrsAt K H b vs
def TrsAt (K : PySem.W.Frag) (H : Hp) : List Tr → List V → Prop
  | [], vs => vs = []
  | t :: r, vs => ∃ v us, vs = v :: us ∧ TrAt K H t v ∧ TrsAt K H r us
end
def BodyAt (K : PySem.W.Frag) (H : Hp) (b : List Tr) (v : V) : Prop := ∃ c vs, v = .ref c ∧ SqT K H c vs ∧ TrsAt K H b vs
mutual
theorem TrAt.kt {K : PySem.W.Frag} {H H' : Hp} (k : Kt H H') : ∀ (t : Tr) (v : V), TrAt K H t v → TrAt K H' t v
  | .op w as, v, h => by
    rw [TrAt] at h ⊢
    obtain ⟨a, e, s⟩ := h
    exact ⟨a, e, k.sq s⟩
  | .loop n b, v, h => by
    rw [TrAt] at h ⊢
    obtain ⟨a, c, vs, e, s, s2, r⟩ := h
    exact ⟨a, c, vs, e, k.sq s, k.sq s2, TrsAt.kt k b vs r⟩
theorem TrsAt.kt {K : PySem.W.Frag} {H H' : Hp} (k : Kt H H') : ∀ (b : List Tr) (vs : List V), TrsAt K H b vs → TrsAt K H' b vs
  | [], vs, h => by
    rw [TrsAt] at h ⊢
    exact h
  | t :: r, vs, h => by
    rw [TrsAt] at h ⊢
    obtain ⟨v, us, e, a, b⟩ := h
    exact ⟨v, us, e, TrAt.kt k t v a, TrsAt.kt k r us b⟩
end
theorem BodyAt.kt {K : PySem.W.Frag} {H H' : Hp} {b : List Tr} {v : V} (k : Kt H H') (h : BodyAt K H b v) : BodyAt K H' b v := by
  obtain ⟨c, vs, e, s, r⟩ := h
  exact ⟨c, vs, e, k.sq s, TrsAt.kt k b vs r⟩
theorem TrsAt.length {K : PySem.W.Frag} {H : Hp} : ∀ {b : List Tr} {vs : List V}, TrsAt K H b vs → vs.length = b.length
  | [], vs, h => by
    rw [TrsAt] at h
    rw [h]
    rfl
  | t :: r, vs, h => by
    rw [TrsAt] at h
    obtain ⟨v, us, rfl, _, k⟩ := h
    rw [List.length_cons, List.length_cons, TrsAt.length k]
theorem TrsAt.get {K : PySem.W.Frag} {H : Hp} : ∀ {b : List Tr} {vs : List V} {i : Nat} {v : V}, TrsAt K H b vs → vs[i]? = some v → ∃ t, b[i]? = some t ∧ TrAt K H t v
  | [], vs, i, v, h, e => by
    rw [TrsAt] at h
    rw [h] at e
    simp at e
  | t :: r, vs, 0, v, h, e => by
    rw [TrsAt] at h
    obtain ⟨v', us, rfl, a, _⟩ := h
    cases e
    exact ⟨t, rfl, a⟩
  | t :: r, vs, i + 1, v, h, e => by
    rw [TrsAt] at h
    obtain ⟨v', us, rfl, _, k⟩ := h
    exact TrsAt.get (i := i) k e
theorem TrsAt.append {K : PySem.W.Frag} {H : Hp} : ∀ {b c : List Tr} {vs us : List V}, TrsAt K H b vs → TrsAt K H c us → TrsAt K H (b ++ c) (vs ++ us)
  | [], c, vs, us, h, k => by
    rw [TrsAt] at h
    rw [h]
    exact k
  | t :: r, c, vs, us, h, k => by
    rw [TrsAt] at h
    obtain ⟨v, ws, rfl, a, l⟩ := h
    show TrsAt K H (t :: (r ++ c)) (v :: (ws ++ us))
    rw [TrsAt]
    exact ⟨v, _, rfl, a, TrsAt.append l k⟩
theorem TrsAt.one {K : PySem.W.Frag} {H : Hp} {t : Tr} {v : V} (h : TrAt K H t v) : TrsAt K H [t] [v] := by
  rw [TrsAt]
  exact ⟨v, [], rfl, h, by rw [TrsAt]⟩
theorem TrsAt.nil {K : PySem.W.Frag} {H : Hp} : TrsAt K H [] [] := by rw [TrsAt]
/-! ### promises about trees -/
def spTI (K : PySem.W.Frag) (ok : List Tr → Prop) (f : List Tr → Int) : Sp := fun vs H Q _ => ∃ v b, vs = [v] ∧ BodyAt K H b v ∧ ok b ∧ ∀ H', Same H H' → Q (.int (f b)) H'
def spII (K : PySem.W.Frag) (ok : Tr → Prop) (f : Tr → Int) : Sp := fun vs H Q _ => ∃ v t, vs = [v] ∧ TrAt K H t v ∧ ok t ∧ ∀ H', Same H H' → Q (.int (f t)) H'
def spWI (K : PySem.W.Frag) (ok : List Tr → Prop) : Sp := fun vs H Q _ => ∃ v b w, vs = [v, .str w] ∧ BodyAt K H b v ∧ ok b ∧ w ≠ "loop" ∧ ∀ H', Same H H' → Q (.int (cnts w b)) H'
theorem same_upd {H H' : Hp} {D : Addr} {o : HO} (s : Same H H') (n : H D = none) : Same H (upd H' D o) := fun b x e => by
  rw [upd_ne (ne_of_none e n)]
  exact s _ _ e
end Lj
namespace Lj
mutual
theorem Tr.dep_nn : ∀ t : Tr, 0 ≤ t.dep
  | .op _ _ => by rw [Tr.dep]; decide
  | .loop _ b => by
    rw [Tr.dep]
    have := deps_nn b
    omega
theorem deps_nn : ∀ b : List Tr, 0 ≤ deps b
  | [] => by rw [deps]; decide
  | t :: r => by
    rw [deps]
    have h1 := Tr.dep_nn t
    have h2 := deps_nn r
    split <;> omega
end
end Lj
set_option Elab.async false
set_option linter.all false
set_option maxRecDepth 100000
namespace Lj
open PySem PySem.Spec PyProof.Rows L2
def prs : List Int := [2, 2, 3, 3, 5, 7, 7, 11, 13, 97, 251, 9973, 10007]
theorem prs_bd {q : Int} (h : q ∈ prs) : 2 ≤ q ∧ q ≤ 10007 := by
  have z : (prs.all fun q => decide (2 ≤ q) && decide (q ≤ 10007)) = true := by decide
  have k := List.all_eq_true.mp z q h
  rw [Bool.and_eq_true] at k
  exact ⟨of_decide_eq_true k.1, of_decide_eq_true k.2⟩
def spPrimeU : Sp := fun vs H Q _ => ∃ p : Addr, vs = [.ref p] ∧ Urn H p ∧ ∀ (q : Int) H', q ∈ prs → Urn H' p → But p H H' → Q (.int q) H'
theorem wide_big {n : Int} (h : n ≤ 10 ^ 40) (h0 : 0 ≤ n) : n.natAbs < wide := by
  have z : (10 ^ 40 : Nat) < wide := by decide +kernel
  omega
/-! ### list.count of texts -/
def eqs (z : Str) (v : Value) : Bool := match v with
  | .str y _ => y == z
  | _ => false
theorem count_strs {z : Str} : ∀ {us : List Value} {ss : List Str}, Vals (ss.map V.str) us → us.countP (eqs z) = ss.count z
  | _, [], .nil => rfl
  | _, s :: ss, .cons ⟨t, rfl⟩ r => by
    rw [List.countP_cons, count_strs r, List.count_cons]
    rfl
theorem mem_strs : ∀ {us : List Value} {ss : List Str} {u : Value}, Vals (ss.map V.str) us → u ∈ us → ∃ s t, u = .str s t
  | _, [], _, .nil, m => by cases m
  | _, s :: ss, u, .cons ⟨t, rfl⟩ r, m => by
    rcases List.mem_cons.mp m with rfl | m
    · exact ⟨s, t, rfl⟩
    · exact mem_strs r m
theorem mt_count_str {X : Cx} : MtR X "list.count" (fun x xs H Q => ∃ (p : Addr) (ss : List Str) (z : Str), x = .ref p ∧ xs = [.str z] ∧ SqL X.K H p (ss.map V.str) ∧ Q (.int (ss.count z : Nat)) H) := by
  intro pins s σ H x xs v us Q I rx rxs h
  obtain ⟨p, ss, z, rfl, rfl, sq, q⟩ := h
  cases rx
  obtain ⟨u, rfl, ⟨t, rfl⟩⟩ := rxs.one
  obtain ⟨its, rv, ⟨⟨cls, dd, data, sl⟩, n, ho, hc, hdn, hd⟩, hlen⟩ := I.list sq
  simp only at hc hd
  subst hc hd
  refine call_meets PySem.F.slot_list_count ⟨_, ho, rfl⟩ PySem.F.entry_list_count (PySem.F.args_list_count_2 _ _) (SeqAt.list_countAt p its.toArray n dd sl (.str z t) (eqs z)) ⟨ho, fun y hy => ?_, ?_⟩
  · obtain ⟨a, b, rfl⟩ := mem_strs rv (by simpa using hy)
    exact eqAt_V (y := .str a) (x := .str z) ⟨b, rfl⟩ ⟨t, rfl⟩ rfl rfl
  · refine ⟨.int (ss.count z : Nat), H, I.tok _, ⟨s.toks, ?_⟩, q⟩
    rw [← count_strs rv]
/-! ### instructions as the laws draw them -/
def W7 : List Str := ["set", "copy", "add", "scale", "swap", "read", "write"]
theorem W7_noloop {w : Str} (h : w ∈ W7) : w ≠ "loop" := by
  have z : (W7.all fun w => !(w == ("loop" : Str))) = true := by decide
  have k := List.all_eq_true.mp z w h
  intro e
  subst e
  revert k
  decide
theorem W7_ok {w : Str} (h : w ∈ W7) : PyData.strOk w = true := by
  have z : (W7.all fun w => PyData.strOk w) = true := by decide +kernel
  exact List.all_eq_true.mp z w h
def GoodOp (p n : Int) (w : Str) (as : List Int) : Prop :=
  ((w = "set" ∨ w = "scale") ∧ ∃ x c, as = [x, c] ∧ 0 ≤ x ∧ x < n ∧ 0 ≤ c ∧ c < p) ∨
  ((w = "read" ∨ w = "write") ∧ ∃ x, as = [x] ∧ 0 ≤ x ∧ x < n) ∨
  ((w = "copy" ∨ w = "swap") ∧ ∃ x y, as = [x, y] ∧ 0 ≤ x ∧ x < n ∧ 0 ≤ y ∧ y < n ∧ x ≠ y) ∨
  (w = "add" ∧ ∃ x y c, as = [x, y, c] ∧ 0 ≤ x ∧ x < n ∧ 0 ≤ y ∧ y < n ∧ x ≠ y ∧ 1 ≤ c ∧ c < p)
theorem GoodOp.w7 {p n : Int} {w : Str} {as : List Int} (h : GoodOp p n w as) : w ∈ W7 := by
  rcases h with ⟨rfl | rfl, _⟩ | ⟨rfl | rfl, _⟩ | ⟨rfl | rfl, _⟩ | ⟨rfl, _⟩ <;> decide
mutual
/-- drawn: at most l instructions, loops at most d deep, half as many within; G: of the others, R: of the rounds -/
def Tr.made (G : Str → List Int → Prop) (R : Int → Prop) : Tr → Nat → Nat → Prop
  | .op w as, _, _ => G w as
  | .loop _ _, _, 0 => False
  | .loop k b, l, d + 1 => R k ∧ b.length ≤ l / 2 ∧ mades G R b (l / 2) d
def mades (G : Str → List Int → Prop) (R : Int → Prop) : List Tr → Nat → Nat → Prop
  | [], _, _ => True
  | t :: r, l, d => t.made G R l d ∧ mades G R r l d
end
theorem mades_append {G : Str → List Int → Prop} {R : Int → Prop} : ∀ {b c : List Tr} {l d : Nat}, mades G R b l d → mades G R c l d → mades G R (b ++ c) l d
  | [], _, _, _, _, k => k
  | t :: r, c, l, d, h, k => by
    rw [mades] at h
    show mades G R (t :: (r ++ c)) l d
    rw [mades]
    exact ⟨h.1, mades_append h.2 k⟩
theorem mades_one {G : Str → List Int → Prop} {R : Int → Prop} {t : Tr} {l d : Nat} (h : t.made G R l d) : mades G R [t] l d := by
  rw [mades, mades]
  exact ⟨h, trivial⟩
theorem mades_nil {G : Str → List Int → Prop} {R : Int → Prop} {l d : Nat} : mades G R [] l d := by
  rw [mades]
  trivial
mutual
theorem Tr.made_wf {G : Str → List Int → Prop} {R : Int → Prop} (hG : ∀ w as, G w as → w ∈ W7) (hR : ∀ k, R k → 0 ≤ k ∧ k ≤ 10 ^ 18) : ∀ (t : Tr) (l d : Nat), l ≤ 1000 → t.made G R l d → t.wf d
  | .op w as, l, d, _, h => by
    rw [Tr.made] at h
    rw [Tr.wf]
    exact W7_noloop (hG w as h)
  | .loop k b, l, 0, _, h => by
    rw [Tr.made] at h
    exact h.elim
  | .loop k b, l, d + 1, hl, h => by
    rw [Tr.made] at h
    rw [Tr.wf]
    exact ⟨(hR k h.1).1, (hR k h.1).2, by omega, mades_wf hG hR b (l / 2) d (by omega) h.2.2⟩
theorem mades_wf {G : Str → List Int → Prop} {R : Int → Prop} (hG : ∀ w as, G w as → w ∈ W7) (hR : ∀ k, R k → 0 ≤ k ∧ k ≤ 10 ^ 18) : ∀ (b : List Tr) (l d : Nat), l ≤ 1000 → mades G R b l d → wfs b d
  | [], _, _, _, _ => by rw [wfs]; trivial
  | t :: r, l, d, hl, h => by
    rw [mades] at h
    rw [wfs]
    exact ⟨Tr.made_wf hG hR t l d hl h.1, mades_wf hG hR r l d hl h.2⟩
end
/-- the most steps that such a body executes, loops of at most 3 rounds -/
def most : Nat → Nat → Nat
  | 0, _ => 1
  | d + 1, l => max 1 (3 * ((l / 2) * most d (l / 2)))
mutual
theorem Tr.made_ex {G : Str → List Int → Prop} {R : Int → Prop} (hR : ∀ k, R k → 0 ≤ k ∧ k ≤ 3) : ∀ (t : Tr) (l d : Nat), t.made G R l d → t.ex.length ≤ most d l
  | .op w as, l, 0, h => by rw [Tr.ex, most]; exact Nat.le_refl 1
  | .op w as, l, d + 1, h => by rw [Tr.ex, most]; exact Nat.le_max_left _ _
  | .loop k b, l, 0, h => by
    rw [Tr.made] at h
    exact h.elim
  | .loop k b, l, d + 1, h => by
    rw [Tr.made] at h
    have ih := mades_ex hR b (l / 2) d h.2.2
    have hk := hR k h.1
    rw [Tr.ex, most, List.length_flatten, List.map_replicate, List.sum_replicate_nat]
    refine Nat.le_trans ?_ (Nat.le_max_right _ _)
    have h1 : (exs b).length ≤ l / 2 * most d (l / 2) := Nat.le_trans ih (Nat.mul_le_mul_right _ h.2.1)
    exact Nat.mul_le_mul (by omega) h1
theorem mades_ex {G : Str → List Int → Prop} {R : Int → Prop} (hR : ∀ k, R k → 0 ≤ k ∧ k ≤ 3) : ∀ (b : List Tr) (l d : Nat), mades G R b l d → (exs b).length ≤ b.length * most d l
  | [], _, _, _ => by rw [exs]; exact Nat.zero_le _
  | t :: r, l, d, h => by
    rw [mades] at h
    have h1 := Tr.made_ex hR t l d h.1
    have h2 := mades_ex hR r l d h.2
    rw [exs, List.length_append, List.length_cons, Nat.succ_mul]
    omega
end
/-! ### what is executed: numbers -/
theorem flat_len {α : Type} (n : Nat) (xs : List α) : ((List.replicate n xs).flatten).length = n * xs.length := by
  rw [List.length_flatten, List.map_replicate, List.sum_replicate_nat]
mutual
theorem Tr.ex_len : ∀ (t : Tr) (d : Nat), t.wf d → (t.ex.length : Int) = t.len
  | .op w as, _, _ => by rw [Tr.ex, Tr.len]; rfl
  | .loop k b, 0, h => by rw [Tr.wf] at h; exact h.elim
  | .loop k b, d + 1, h => by
    rw [Tr.wf] at h
    have ih := exs_len b d h.2.2.2
    rw [Tr.ex, Tr.len, flat_len, ← ih, Int.natCast_mul]
    congr 1
    omega
theorem exs_len : ∀ (b : List Tr) (d : Nat), wfs b d → ((exs b).length : Int) = lens b
  | [], _, _ => by rw [exs, lens]; rfl
  | t :: r, d, h => by
    rw [wfs] at h
    rw [exs, lens, List.length_append, Int.natCast_add, Tr.ex_len t d h.1, exs_len r d h.2]
end
/-- the word of an instruction -/
def Tr.word : Tr → Str
  | .op w _ => w
  | .loop _ _ => "loop"
theorem count_flat (z : Str) (xs : List Tr) : ∀ n : Nat, (((List.replicate n xs).flatten).map Tr.word).count z = n * (xs.map Tr.word).count z
  | 0 => by simp
  | n + 1 => by rw [List.replicate_succ, List.flatten_cons, List.map_append, List.count_append, count_flat z xs n, Nat.succ_mul, Nat.add_comm]
mutual
theorem Tr.ex_cnt (z : Str) : ∀ (t : Tr) (d : Nat), t.wf d → (((t.ex.map Tr.word).count z : Nat) : Int) = t.cnt z
  | .op w as, _, _ => by
    rw [Tr.ex, Tr.cnt]
    show (([w].count z : Nat) : Int) = _
    rw [List.count_singleton]
    by_cases e : w = z
    · rw [if_pos e, if_pos (beq_iff_eq.mpr e)]
      rfl
    · rw [if_neg e, if_neg (fun h => e (beq_iff_eq.mp h))]
      rfl
  | .loop k b, 0, h => by rw [Tr.wf] at h; exact h.elim
  | .loop k b, d + 1, h => by
    rw [Tr.wf] at h
    have ih := exs_cnt z b d h.2.2.2
    rw [Tr.ex, Tr.cnt, count_flat, ← ih, Int.natCast_mul]
    congr 1
    omega
theorem exs_cnt (z : Str) : ∀ (b : List Tr) (d : Nat), wfs b d → ((((exs b).map Tr.word).count z : Nat) : Int) = cnts z b
  | [], _, _ => by rw [exs, cnts]; rfl
  | t :: r, d, h => by
    rw [wfs] at h
    rw [exs, cnts, List.map_append, List.count_append, Int.natCast_add, Tr.ex_cnt z t d h.1, exs_cnt z r d h.2]
end
/-- all are no loops -/
def Ops (b : List Tr) : Prop := ∀ t ∈ b, ∃ w as, t = .op w as ∧ w ∈ W7
mutual
theorem Tr.ex_ops {G : Str → List Int → Prop} {R : Int → Prop} (hG : ∀ w as, G w as → w ∈ W7) : ∀ (t : Tr) (l d : Nat), t.made G R l d → Ops t.ex
  | .op w as, l, d, h => by
    rw [Tr.made] at h
    rw [Tr.ex]
    intro t m
    exact ⟨w, as, List.mem_singleton.mp m, hG w as h⟩
  | .loop k b, l, 0, h => by rw [Tr.made] at h; exact h.elim
  | .loop k b, l, d + 1, h => by
    rw [Tr.made] at h
    rw [Tr.ex]
    intro t m
    obtain ⟨xs, m1, m2⟩ := List.mem_flatten.mp m
    rw [(List.mem_replicate.mp m1).2] at m2
    exact exs_ops hG b (l / 2) d h.2.2 t m2
theorem exs_ops {G : Str → List Int → Prop} {R : Int → Prop} (hG : ∀ w as, G w as → w ∈ W7) : ∀ (b : List Tr) (l d : Nat), mades G R b l d → Ops (exs b)
  | [], _, _, _ => by rw [exs]; intro t m; cases m
  | t :: r, l, d, h => by
    rw [mades] at h
    rw [exs]
    intro u m
    rcases List.mem_append.mp m with m | m
    · exact Tr.ex_ops hG t l d h.1 u m
    · exact exs_ops hG r l d h.2 u m
end
/-! ### data of instructions -/
def Tr.dat : Tr → PyData
  | .op w as => .tuple (.str w :: as.map .int)
  | .loop _ _ => .none
theorem dp_ints {K : PySem.W.Frag} {H : Hp} : ∀ as : List Int, DpAll K H (as.map V.int) (as.map PyData.int)
  | [] => .nil
  | a :: r => .cons (.int a) (dp_ints r)
theorem lay_ints : ∀ as : List Int, PyData.canLayAll0 (as.map PyData.int) = true
  | [] => by rw [List.map_nil, PyData.canLayAll0]
  | a :: r => by rw [List.map_cons, PyData.canLayAll0, PyData.canLay0, lay_ints r]; rfl
theorem depth_ints : ∀ as : List Int, PyData.depthAll (as.map PyData.int) = 0
  | [] => by rw [List.map_nil, PyData.depthAll]
  | a :: r => by rw [List.map_cons, PyData.depthAll, PyData.depth, depth_ints r]; rfl
theorem Ops.dp {K : PySem.W.Frag} {H : Hp} : ∀ {b : List Tr} {vs : List V}, Ops b → TrsAt K H b vs → DpAll K H vs (b.map Tr.dat)
  | [], vs, _, h => by
    rw [TrsAt] at h
    rw [h]
    exact .nil
  | t :: r, vs, o, h => by
    rw [TrsAt] at h
    obtain ⟨v, us, rfl, a, k⟩ := h
    obtain ⟨w, as, rfl, _⟩ := o t List.mem_cons_self
    rw [TrAt] at a
    obtain ⟨x, rfl, sq⟩ := a
    exact .cons (.tup sq (.cons (.str w) (dp_ints as))) (Ops.dp (fun u m => o u (List.mem_cons_of_mem _ m)) k)
theorem Ops.lay : ∀ {b : List Tr}, Ops b → PyData.canLayAll0 (b.map Tr.dat) = true
  | [], _ => by rw [List.map_nil, PyData.canLayAll0]
  | t :: r, o => by
    obtain ⟨w, as, rfl, hw⟩ := o t List.mem_cons_self
    rw [List.map_cons, PyData.canLayAll0, Ops.lay (fun u m => o u (List.mem_cons_of_mem _ m)), Tr.dat, PyData.canLay0, PyData.canLayAll0, PyData.canLay0, W7_ok hw, lay_ints]
    rfl
theorem Ops.deep : ∀ {b : List Tr}, Ops b → PyData.depthAll (b.map Tr.dat) ≤ 1
  | [], _ => by rw [List.map_nil, PyData.depthAll]; exact Nat.zero_le _
  | t :: r, o => by
    obtain ⟨w, as, rfl, hw⟩ := o t List.mem_cons_self
    have ih := Ops.deep (b := r) (fun u m => o u (List.mem_cons_of_mem _ m))
    rw [List.map_cons, PyData.depthAll, Tr.dat, PyData.depth, PyData.depthAll, PyData.depth, depth_ints]
    omega
theorem Ops.shaped {b : List Tr} (o : Ops b) : SeqAt.shaped (.list (b.map Tr.dat)) = true := by
  unfold SeqAt.shaped
  rw [PyData.canLay0, o.lay, PyData.depth, decide_eq_true (by have := o.deep; omega)]
  rfl
theorem shaped_nil : SeqAt.shaped (.list []) = true := by decide
theorem eqv_nil : ∀ b : List PyData, PyData.eqv (.list b) (.list []) = b.isEmpty
  | [] => by rw [PyData.eqv, PyData.eqvAll]; rfl
  | a :: r => by rw [PyData.eqv, PyData.eqvAll]; rfl
theorem inV2 {w a b : Str} : inV (.str w) [.str a, .str b] = true ↔ (w = a ∨ w = b) := by
  show (a == w || (b == w || false)) = true ↔ _
  rw [Bool.or_false, Bool.or_eq_true, beq_iff_eq, beq_iff_eq]
  constructor
  · rintro (h | h)
    · exact .inl h.symm
    · exact .inr h.symm
  · rintro (h | h)
    · exact .inl h.symm
    · exact .inr h.symm
/-! ### promises of the law's own defs -/
def W9 : List Str := ["set", "copy", "copy", "add", "add", "scale", "swap", "read", "write"]
theorem W9_in : ∀ x ∈ W9, x ∈ W7 := by
  have z : (W9.all fun x => W7.contains x) = true := by decide
  intro x m
  exact List.contains_iff_mem.mp (List.all_eq_true.mp z x m)
def spWords : Sp := fun vs H Q _ => vs = [] ∧ ∀ p, H p = none → Q (.ref p) (upd H p (.lst (W9.map V.str)))
def spItem (K : PySem.W.Frag) : Sp := fun vs H Q _ => ∃ (u ws : Addr) (p n : Int) (wl : List Str), vs = [.ref u, .int p, .int n, .ref ws] ∧ Urn H u ∧ 2 ≤ p ∧ p ≤ 10007 ∧ 1 ≤ n ∧ n ≤ 8 ∧ ws ≠ u ∧ SqL K H ws (wl.map V.str) ∧ wl ≠ [] ∧ wl.length ≤ 1000 ∧ (∀ x ∈ wl, x ∈ W7) ∧
  ∀ w as v H', GoodOp p n w as → (w ∈ wl ∨ w = "set") → TrAt K H' (.op w as) v → Urn H' u → But u H H' → Q v H'
def spBody (K : PySem.W.Frag) (d : Nat) : Sp := fun vs H Q _ => ∃ (u ws rs : Addr) (p n : Int) (wl : List Str) (rl : List Int) (l e : Nat), vs = [.ref u, .int p, .int n, .ref ws, .int (l : Int), .int (e : Int), .ref rs] ∧ Urn H u ∧ 2 ≤ p ∧ p ≤ 10007 ∧ 1 ≤ n ∧ n ≤ 8 ∧ ws ≠ u ∧ SqL K H ws (wl.map V.str) ∧ wl ≠ [] ∧ wl.length ≤ 1000 ∧ (∀ x ∈ wl, x ∈ W7) ∧
  rs ≠ u ∧ SqL K H rs (rl.map V.int) ∧ rl ≠ [] ∧ rl.length ≤ 1000 ∧ l ≤ 1000 ∧ e < d ∧
  ∀ b v H', b.length ≤ l → mades (fun w as => GoodOp p n w as ∧ (w ∈ wl ∨ w = "set")) (fun k => k ∈ rl) b l e → BodyAt K H' b v → Urn H' u → But u H H' → Q v H'
mutual
/-- every body within executes a bounded number of steps -/
def Tr.fine : Tr → Prop
  | .op w _ => w ∈ W7
  | .loop _ b => (exs b).length ≤ 100000 ∧ fines b
def fines : List Tr → Prop
  | [] => True
  | t :: r => t.fine ∧ fines r
end
theorem fines_get : ∀ {b : List Tr} {i : Nat} {t : Tr}, fines b → b[i]? = some t → t.fine
  | [], _, _, _, e => by simp at e
  | t :: r, 0, u, h, e => by
    cases e
    rw [fines] at h
    exact h.1
  | t :: r, i + 1, u, h, e => by
    rw [fines] at h
    exact fines_get (i := i) h.2 e
mutual
theorem Tr.fine_ops : ∀ t : Tr, t.fine → Ops t.ex
  | .op w as, h => by
    rw [Tr.fine] at h
    rw [Tr.ex]
    intro t m
    exact ⟨w, as, List.mem_singleton.mp m, h⟩
  | .loop k b, h => by
    rw [Tr.fine] at h
    rw [Tr.ex]
    intro t m
    obtain ⟨xs, m1, m2⟩ := List.mem_flatten.mp m
    rw [(List.mem_replicate.mp m1).2] at m2
    exact fines_ops b h.2 t m2
theorem fines_ops : ∀ b : List Tr, fines b → Ops (exs b)
  | [], _ => by rw [exs]; intro t m; cases m
  | t :: r, h => by
    rw [fines] at h
    rw [exs]
    intro u m
    rcases List.mem_append.mp m with m | m
    · exact Tr.fine_ops t h.1 u m
    · exact fines_ops r h.2 u m
end
theorem most0 : ∀ d, most d 0 = 1
  | 0 => rfl
  | d + 1 => by
    rw [most]
    show max 1 (3 * (0 * _)) = 1
    rw [Nat.zero_mul]
    rfl
theorem most_pos : ∀ d l, 1 ≤ most d l
  | 0, _ => Nat.le_refl 1
  | d + 1, l => by rw [most]; exact Nat.le_max_left _ _
mutual
theorem Tr.made_fine {G : Str → List Int → Prop} {R : Int → Prop} (hG : ∀ w as, G w as → w ∈ W7) (hR : ∀ k, R k → 0 ≤ k ∧ k ≤ 3) : ∀ (t : Tr) (l d : Nat), max 1 l * most d l ≤ 100000 → t.made G R l d → t.fine
  | .op w as, l, d, _, h => by
    rw [Tr.made] at h
    rw [Tr.fine]
    exact hG w as h
  | .loop k b, l, 0, _, h => by rw [Tr.made] at h; exact h.elim
  | .loop k b, l, d + 1, hb, h => by
    rw [Tr.made] at h
    rw [Tr.fine]
    have h1 : 3 * (l / 2 * most d (l / 2)) ≤ 100000 := by
      have h0 : most (d + 1) l ≤ 100000 := Nat.le_trans (Nat.le_mul_of_pos_left _ (by omega)) hb
      rw [most] at h0
      exact Nat.le_trans (Nat.le_max_right _ _) h0
    have h2 := mades_ex hR b (l / 2) d h.2.2
    have h3 : b.length * most d (l / 2) ≤ l / 2 * most d (l / 2) := Nat.mul_le_mul_right _ h.2.1
    refine ⟨by omega, mades_fine hG hR b (l / 2) d ?_ h.2.2⟩
    by_cases z : l / 2 = 0
    · rw [z, most0]
      decide
    · rw [show max 1 (l / 2) = l / 2 by omega]
      omega
theorem mades_fine {G : Str → List Int → Prop} {R : Int → Prop} (hG : ∀ w as, G w as → w ∈ W7) (hR : ∀ k, R k → 0 ≤ k ∧ k ≤ 3) : ∀ (b : List Tr) (l d : Nat), max 1 l * most d l ≤ 100000 → mades G R b l d → fines b
  | [], _, _, _, _ => by rw [fines]; trivial
  | t :: r, l, d, hl, h => by
    rw [mades] at h
    rw [fines]
    exact ⟨Tr.made_fine hG hR t l d hl h.1, mades_fine hG hR r l d hl h.2⟩
end
theorem mades_big {G : Str → List Int → Prop} {R : Int → Prop} (hR : ∀ k, R k → 0 ≤ k ∧ k ≤ 3) {b : List Tr} {l d : Nat} (hl : b.length ≤ l) (hm : max 1 l * most d l ≤ 100000) (h : mades G R b l d) : (exs b).length ≤ 100000 := by
  have h1 := mades_ex hR b l d h
  have h2 : b.length * most d l ≤ max 1 l * most d l := Nat.mul_le_mul_right _ (by omega)
  omega
theorem most84 : max 1 8 * most 4 8 ≤ 100000 := by decide
def spExec (K : PySem.W.Frag) (d : Nat) : Sp := fun vs H Q _ => ∃ v b, vs = [v] ∧ BodyAt K H b v ∧ okB d b ∧ fines b ∧ (exs b).length ≤ 100000 ∧
  ∀ H' l us, Same H H' → H l = none → H' l = some (.lst us) → TrsAt K H' (exs b) us → Q (.ref l) H'
end Lj
set_option Elab.async false
set_option linter.all false
set_option maxRecDepth 100000
namespace Lj
open PySem PySem.Spec PyProof.Rows L2
theorem iteNN {c A B : Prop} [Decidable c] (h : ¬ c) (a : A) : if (!decide c) = true then A else B := by
  rw [decide_eq_false h]
  exact a
/-! ### repr of lists of numbers -/
/-- a number, None, a truth value, shown in a few signs -/
def Leaf (d : PyData) : Prop := d.showable = true ∧ d.hasDict = false ∧ d.depth = 0 ∧ d.shown.length ≤ 1921
theorem leaf_int {i : Int} (h : i.natAbs.log2 < 1920) : Leaf (.int i) := ⟨by rw [PyData.showable]; exact decide_eq_true h, by rw [PyData.hasDict], by rw [PyData.depth], by rw [PyData.shown]; exact int_text_len_1921 h⟩
theorem leaf_none : Leaf .none := ⟨by rw [PyData.showable], by rw [PyData.hasDict], by rw [PyData.depth], by rw [PyData.shown]; decide⟩
theorem leaf_all : ∀ {ds : List PyData}, (∀ d ∈ ds, Leaf d) → PyData.showableAll ds = true ∧ PyData.hasDictAll ds = false ∧ PyData.depthAll ds = 0 ∧ ((PyData.shownAll ds).map (·.length)).sum ≤ 1921 * ds.length ∧ (PyData.shownAll ds).length = ds.length
  | [], _ => ⟨by rw [PyData.showableAll], by rw [PyData.hasDictAll], by rw [PyData.depthAll], by rw [PyData.shownAll]; exact Nat.zero_le _, by rw [PyData.shownAll]; rfl⟩
  | d :: r, h => by
    obtain ⟨a1, a2, a3, a4⟩ := h d List.mem_cons_self
    obtain ⟨b1, b2, b3, b4, b5⟩ := leaf_all (ds := r) fun x m => h x (List.mem_cons_of_mem _ m)
    refine ⟨by rw [PyData.showableAll, a1, b1]; rfl, by rw [PyData.hasDictAll, a2, b2]; rfl, by rw [PyData.depthAll, a3, b3]; rfl, ?_, by rw [PyData.shownAll, List.length_cons, b5, List.length_cons]⟩
    rw [PyData.shownAll, List.map_cons, List.sum_cons, List.length_cons]
    omega
theorem leaf_list {ds : List PyData} (h : ∀ d ∈ ds, Leaf d) (n : ds.length ≤ 8000) : (PyData.list ds).showable = true ∧ (PyData.list ds).hasDict = false ∧ (PyData.list ds).depth ≤ 64 ∧ (PyData.list ds).shown.length ≤ sizeLine := by
  obtain ⟨b1, b2, b3, b4, b5⟩ := leaf_all h
  refine ⟨by rw [PyData.showable]; exact b1, by rw [PyData.hasDict]; exact b2, by rw [PyData.depth, b3]; decide, ?_⟩
  rw [PyData.shown, sizeLine_eq]
  have := PySem.listText_len_le (PyData.shownAll ds)
  omega
theorem dp_int_list {K : PySem.W.Frag} {H : Hp} {a : Addr} {ns : List Int} (h : SqL K H a (ns.map V.int)) : Dp K H (.ref a) (.list (ns.map PyData.int)) := .lst h (dp_ints ns)
theorem log_of {i : Int} {k : Nat} (h : i.natAbs < 2 ^ k) (k0 : 0 < k) (k1 : k ≤ 1920) : i.natAbs.log2 < 1920 := Nat.lt_of_lt_of_le (PySem.Flt.log2_lt_of k0 h) k1
theorem leaf_ints {ns : List Int} (h : ∀ n ∈ ns, n.natAbs < 2 ^ 1000) : ∀ d ∈ ns.map PyData.int, Leaf d := by
  intro d m
  obtain ⟨n, hn, rfl⟩ := List.mem_map.mp m
  exact leaf_int (log_of (h n hn) (by decide) (by decide))
/-! ### bounds -/
def top : Nat → Int
  | 0 => 1
  | d + 1 => 10 ^ 18 * (1000 * top d)
theorem top_pos : ∀ d, 1 ≤ top d
  | 0 => by decide
  | d + 1 => by
    have := top_pos d
    rw [top]
    omega
mutual
theorem Tr.len_bd : ∀ (t : Tr) (d : Nat), t.wf d → 0 ≤ t.len ∧ t.len ≤ top d
  | .op w as, d, _ => by
    rw [Tr.len]
    exact ⟨by decide, top_pos d⟩
  | .loop k b, 0, h => by rw [Tr.wf] at h; exact h.elim
  | .loop k b, d + 1, h => by
    rw [Tr.wf] at h
    obtain ⟨i0, i1⟩ := lens_bd b d h.2.2.2
    have tp := top_pos d
    have i2 : lens b ≤ 1000 * top d := Int.le_trans i1 (Int.mul_le_mul_of_nonneg_right (by omega) (by omega))
    rw [Tr.len, top]
    exact ⟨Int.mul_nonneg h.1 i0, Int.mul_le_mul h.2.1 i2 i0 (by decide)⟩
theorem lens_bd : ∀ (b : List Tr) (d : Nat), wfs b d → 0 ≤ lens b ∧ lens b ≤ (b.length : Int) * top d
  | [], d, _ => by rw [lens]; exact ⟨by decide, by simp⟩
  | t :: r, d, h => by
    rw [wfs] at h
    obtain ⟨a0, a1⟩ := Tr.len_bd t d h.1
    obtain ⟨b0, b1⟩ := lens_bd r d h.2
    rw [lens, List.length_cons]
    refine ⟨by omega, ?_⟩
    rw [show ((r.length + 1 : Nat) : Int) = (r.length : Int) + 1 from rfl, Int.add_mul, Int.one_mul]
    omega
end
mutual
theorem Tr.cnt_bd (z : Str) : ∀ (t : Tr) (d : Nat), t.wf d → 0 ≤ t.cnt z ∧ t.cnt z ≤ t.len
  | .op w as, d, _ => by
    rw [Tr.len, Tr.cnt]
    split <;> exact ⟨by decide, by decide⟩
  | .loop k b, 0, h => by rw [Tr.wf] at h; exact h.elim
  | .loop k b, d + 1, h => by
    rw [Tr.wf] at h
    obtain ⟨i0, i1⟩ := cnts_bd z b d h.2.2.2
    rw [Tr.len, Tr.cnt]
    exact ⟨Int.mul_nonneg h.1 i0, Int.mul_le_mul_of_nonneg_left i1 h.1⟩
theorem cnts_bd (z : Str) : ∀ (b : List Tr) (d : Nat), wfs b d → 0 ≤ cnts z b ∧ cnts z b ≤ lens b
  | [], d, _ => by rw [lens, cnts]; exact ⟨by decide, by decide⟩
  | t :: r, d, h => by
    rw [wfs] at h
    obtain ⟨a0, a1⟩ := Tr.cnt_bd z t d h.1
    obtain ⟨b0, b1⟩ := cnts_bd z r d h.2
    rw [lens, cnts]
    omega
end
mutual
theorem Tr.inn_bd : ∀ (t : Tr) (d : Nat), t.wf d → 0 ≤ t.inn ∧ t.inn ≤ top d
  | .op w as, d, _ => by
    rw [Tr.inn]
    have := top_pos d
    omega
  | .loop k b, 0, h => by rw [Tr.wf] at h; exact h.elim
  | .loop k b, d + 1, h => by
    rw [Tr.wf] at h
    obtain ⟨i0, i1⟩ := inns_bd b d h.2.2.2
    have tp := top_pos d
    have i2 : inns b ≤ 1000 * top d := Int.le_trans i1 (Int.mul_le_mul_of_nonneg_right (by omega) (by omega))
    rw [Tr.inn, top]
    omega
theorem inns_bd : ∀ (b : List Tr) (d : Nat), wfs b d → 0 ≤ inns b ∧ inns b ≤ (b.length : Int) * top d
  | [], d, _ => by rw [inns]; exact ⟨by decide, by simp⟩
  | t :: r, d, h => by
    rw [wfs] at h
    obtain ⟨a0, a1⟩ := Tr.inn_bd t d h.1
    obtain ⟨b0, b1⟩ := inns_bd r d h.2
    rw [inns, List.length_cons]
    refine ⟨by omega, ?_⟩
    rw [show ((r.length + 1 : Nat) : Int) = (r.length : Int) + 1 from rfl, Int.add_mul, Int.one_mul]
    omega
end
mutual
theorem Tr.dep_bd : ∀ (t : Tr) (d : Nat), t.wf d → t.dep ≤ d
  | .op w as, d, _ => by rw [Tr.dep]; omega
  | .loop k b, 0, h => by rw [Tr.wf] at h; exact h.elim
  | .loop k b, d + 1, h => by
    rw [Tr.wf] at h
    have := deps_bd b d h.2.2.2
    rw [Tr.dep]
    omega
theorem deps_bd : ∀ (b : List Tr) (d : Nat), wfs b d → deps b ≤ d
  | [], d, _ => by rw [deps]; omega
  | t :: r, d, h => by
    rw [wfs] at h
    have h1 := Tr.dep_bd t d h.1
    have h2 := deps_bd r d h.2
    rw [deps]
    split <;> omega
end
theorem lens_log {b : List Tr} {d : Nat} (h : okB (d + 1) b) (hd : d ≤ 6) : (lens b).natAbs < 2 ^ 1000 := by
  obtain ⟨h0, h1⟩ := lens_bd b d h.1
  have tp := top_pos d
  have h2 : lens b ≤ 1000 * top d := Int.le_trans h1 (Int.mul_le_mul_of_nonneg_right (by have := h.2; omega) (by omega))
  have h3 : 1000 * top d < 2 ^ 1000 := by
    have : d = 0 ∨ d = 1 ∨ d = 2 ∨ d = 3 ∨ d = 4 ∨ d = 5 ∨ d = 6 := by omega
    rcases this with rfl | rfl | rfl | rfl | rfl | rfl | rfl <;> decide +kernel
  omega
/-! ### once, and with great rounds -/
mutual
def Tr.once : Tr → Tr
  | .op w as => .op w as
  | .loop _ b => .loop 1 (onces b)
def onces : List Tr → List Tr
  | [] => []
  | t :: r => t.once :: onces r
end
theorem onces_map : ∀ b : List Tr, onces b = b.map Tr.once
  | [] => by rw [onces]; rfl
  | t :: r => by rw [onces, onces_map r]; rfl
mutual
theorem Tr.made_once {G : Str → List Int → Prop} {R : Int → Prop} : ∀ (t : Tr) (l d : Nat), t.made G R l d → t.once.made G (fun k => k = 1) l d
  | .op w as, l, d, h => by
    rw [Tr.made] at h
    rw [Tr.once, Tr.made]
    exact h
  | .loop k b, l, 0, h => by rw [Tr.made] at h; exact h.elim
  | .loop k b, l, d + 1, h => by
    rw [Tr.made] at h
    rw [Tr.once, Tr.made]
    exact ⟨rfl, by rw [onces_map, List.length_map]; exact h.2.1, mades_once b (l / 2) d h.2.2⟩
theorem mades_once {G : Str → List Int → Prop} {R : Int → Prop} : ∀ (b : List Tr) (l d : Nat), mades G R b l d → mades G (fun k => k = 1) (onces b) l d
  | [], l, d, _ => by rw [onces]; exact mades_nil
  | t :: r, l, d, h => by
    rw [mades] at h
    rw [onces, mades]
    exact ⟨Tr.made_once t l d h.1, mades_once r l d h.2⟩
end
/-- no step of the word z, were each loop executed once -/
def NoW (z : Str) (b : List Tr) : Prop := z ∉ (exs (onces b)).map Tr.word
mutual
theorem Tr.noW (z : Str) : ∀ t : Tr, z ∉ (t.once.ex).map Tr.word → t.cnt z = 0
  | .op w as, h => by
    rw [Tr.once, Tr.ex] at h
    rw [Tr.cnt, if_neg]
    intro e
    exact h (by subst e; exact List.mem_singleton.mpr rfl)
  | .loop k b, h => by
    rw [Tr.once, Tr.ex] at h
    rw [Tr.cnt, noWs z b (by
      intro m
      refine h ?_
      show z ∈ (List.flatten [exs (onces b)]).map Tr.word
      rw [List.flatten_cons, List.flatten_nil, List.append_nil]
      exact m), Int.mul_zero]
theorem noWs (z : Str) : ∀ b : List Tr, NoW z b → cnts z b = 0
  | [], _ => by rw [cnts]
  | t :: r, h => by
    unfold NoW at h
    rw [onces, exs, List.map_append, List.mem_append] at h
    rw [cnts, Tr.noW z t (fun m => h (.inl m)), noWs z r (fun m => h (.inr m))]
    rfl
end
mutual
/-- the same but for rounds, and these only where nothing is read or written -/
def Tr.gr : Tr → Tr → Prop
  | .op w as, t => t = .op w as
  | .loop k b, t => ∃ k' b', t = .loop k' b' ∧ 0 ≤ k' ∧ k' ≤ 10 ^ 18 ∧ grs b b' ∧ (k' = k ∨ (NoW "read" b' ∧ NoW "write" b'))
def grs : List Tr → List Tr → Prop
  | [], g => g = []
  | t :: r, g => ∃ t' r', g = t' :: r' ∧ t.gr t' ∧ grs r r'
end
theorem grs_snoc : ∀ {b g : List Tr} {t t' : Tr}, grs b g → t.gr t' → grs (b ++ [t]) (g ++ [t'])
  | [], g, t, t', h, k => by
    rw [grs] at h
    rw [h]
    show grs [t] [t']
    rw [grs]
    exact ⟨t', [], rfl, k, by rw [grs]⟩
  | a :: r, g, t, t', h, k => by
    rw [grs] at h
    obtain ⟨a', r', rfl, h1, h2⟩ := h
    show grs (a :: (r ++ [t])) (a' :: (r' ++ [t']))
    rw [grs]
    exact ⟨a', _, rfl, h1, grs_snoc h2 k⟩
mutual
theorem Tr.gr_all : ∀ (t t' : Tr), t.gr t' → t'.once = t.once ∧ t'.inn = t.inn ∧ t'.dep = t.dep ∧ (∀ d, t.wf d → t'.wf d) ∧ (∀ G R l d, t.made G R l d → t'.made G (fun k => R k ∨ (0 ≤ k ∧ k ≤ 10 ^ 18)) l d) ∧ ((t.cnt "read" = t'.cnt "read") ∧ (t.cnt "write" = t'.cnt "write"))
  | .op w as, t', h => by
    rw [Tr.gr] at h
    subst h
    refine ⟨rfl, rfl, rfl, fun _ h => h, fun G R l d h => ?_, rfl, rfl⟩
    rw [Tr.made] at h ⊢
    exact h
  | .loop k b, t', h => by
    rw [Tr.gr] at h
    obtain ⟨k', b', rfl, k0, k1, hg, hk⟩ := h
    obtain ⟨e1, e2, e3, e4, e5, e6, e7⟩ := grs_all b b' hg
    refine ⟨by rw [Tr.once, Tr.once, e1], by rw [Tr.inn, Tr.inn, e2, e7.1], by rw [Tr.dep, Tr.dep, e3], fun d h => ?_, fun G R l d h => ?_, ?_⟩
    · cases d with
      | zero => rw [Tr.wf] at h; exact h.elim
      | succ d =>
        rw [Tr.wf] at h ⊢
        exact ⟨k0, k1, by rw [e7.1]; exact h.2.2.1, e4 d h.2.2.2⟩
    · cases d with
      | zero => rw [Tr.made] at h; exact h.elim
      | succ d =>
        rw [Tr.made] at h ⊢
        exact ⟨.inr ⟨k0, k1⟩, by rw [e7.1]; exact h.2.1, e5 G R _ _ h.2.2⟩
    · rw [Tr.cnt, Tr.cnt, Tr.cnt, Tr.cnt]
      rcases hk with rfl | ⟨n1, n2⟩
      · rw [e6.1, e6.2]
        exact ⟨rfl, rfl⟩
      · rw [e6.1, e6.2, noWs _ b' n1, noWs _ b' n2, Int.mul_zero, Int.mul_zero]
        exact ⟨rfl, rfl⟩
theorem grs_all : ∀ (b g : List Tr), grs b g → onces g = onces b ∧ inns g = inns b ∧ deps g = deps b ∧ (∀ d, wfs b d → wfs g d) ∧ (∀ G R l d, mades G R b l d → mades G (fun k => R k ∨ (0 ≤ k ∧ k ≤ 10 ^ 18)) g l d) ∧ ((cnts "read" b = cnts "read" g) ∧ (cnts "write" b = cnts "write" g)) ∧ (g.length = b.length ∧ True)
  | [], g, h => by
    rw [grs] at h
    subst h
    exact ⟨rfl, rfl, rfl, fun _ h => h, fun _ _ _ _ _ => mades_nil, ⟨rfl, rfl⟩, rfl, trivial⟩
  | t :: r, g, h => by
    rw [grs] at h
    obtain ⟨t', r', rfl, h1, h2⟩ := h
    obtain ⟨a1, a2, a3, a4, a5, a6⟩ := Tr.gr_all t t' h1
    obtain ⟨e1, e2, e3, e4, e5, e6, e7⟩ := grs_all r r' h2
    refine ⟨by rw [onces, onces, a1, e1], by rw [inns, inns, a2, e2], by rw [deps, deps, a3, e3], fun d h => ?_, fun G R l d h => ?_, ⟨by rw [cnts, cnts, a6.1, e6.1], by rw [cnts, cnts, a6.2, e6.2]⟩, by rw [List.length_cons, List.length_cons, e7.1], trivial⟩
    · rw [wfs] at h ⊢
      exact ⟨a4 d h.1, e4 d h.2⟩
    · rw [mades] at h ⊢
      exact ⟨a5 G R l d h.1, e5 G R l d h.2⟩
end
theorem shaped_ints (ns : List Int) : SeqAt.shaped (.list (ns.map PyData.int)) = true := by
  unfold SeqAt.shaped
  rw [PyData.canLay0, lay_ints, PyData.depth, depth_ints]
  rfl
theorem same_but {H H1 H2 : Hp} {u : Addr} (s : Same H H1) (n : H u = none) (b : But u H1 H2) : Same H H2 := fun x o e => b x o (ne_of_none e n) (s x o e)
/-- one parameter, given by its name -/
theorem kb1 {K : PySem.W.Frag} {x p : Str} {st : Stmt} {f : Addr} {fd : FuncData} (F : Fun K x x st f fd)
    (h : ∀ (kV doc pm : Value) (an : Option Addr) (cdv ct u : Value), bindArgs (PySem.W.fnOf x x (defArgs st) (defBody st) (defScope st) .none kV doc pm an cdv ct) ⟨[], [(p, u)]⟩ = pure [(p, u)]) :
    KBinds K fd [p] [p] (fun us ws => if us.isEmpty then ws else []) (fun us ws => if us.isEmpty then ws else []) := by
  obtain ⟨oc, od, kV, doc, pm, an, cdv, ct, osl, rfl, lk, hcd⟩ := F.ex
  refine ⟨fun s us ws _ hl => ?_, fun {vs us zs ws} r rz => ?_⟩
  · cases us with
    | cons u r =>
      rw [show (u :: r).isEmpty = false from rfl, if_neg Bool.false_ne_true] at hl
      cases hl
    | nil =>
      match ws, hl with
      | [_], _ => exact .of_eq (h ..)
  · cases r with
    | nil => exact rz
    | cons _ _ => exact .nil
end Lj
namespace Lj
mutual
theorem Tr.wf_up : ∀ (t : Tr) (n : Nat), t.wf n → t.wf (n + 1)
  | .op w as, n, h => by
    rw [Tr.wf] at h ⊢
    exact h
  | .loop k b, 0, h => by rw [Tr.wf] at h; exact h.elim
  | .loop k b, n + 1, h => by
    rw [Tr.wf] at h ⊢
    exact ⟨h.1, h.2.1, h.2.2.1, wfs_up' b n h.2.2.2⟩
theorem wfs_up' : ∀ (b : List Tr) (n : Nat), wfs b n → wfs b (n + 1)
  | [], n, _ => by rw [wfs]; trivial
  | t :: r, n, h => by
    rw [wfs] at h ⊢
    exact ⟨Tr.wf_up t n h.1, wfs_up' r n h.2⟩
end
theorem wfs_up {b : List Tr} {n : Nat} (h : wfs b n) : wfs b (n + 1) := wfs_up' b n h
end Lj
set_option Elab.async false
set_option linter.all false
set_option maxRecDepth 100000
set_option maxHeartbeats 1000000
namespace Lj
open PySem PySem.Spec PyProof.Rows L2
/-! ### zip of any two things that can be walked: each a feed -/
/-- an iterator at i with n things to give, as long as its source stands -/
structure Feed (i : Addr) (n : Nat) (f : Nat → Value → Prop) (St : Nat → Heap → Prop) (Src : Heap → Prop) : Prop where
  give : ∀ {prog : Program} {w : World} {A : Around} {E : Value → Shared → Prop} {s : Shared} {k : Nat} {Q : Value → Shared → Prop}, k < n → St k s.heap → Src s.heap → (∀ x h' tk, f k x → St (k + 1) h' → Heap.SameBut i s.heap h' → Q x { s with heap := h', toks := tk }) →
    wpAny (model prog w) A (Builtin.SmallTypes.nextOf (.ref i)) Q E s
  over : ∀ {prog : Program} {w : World} {A : Around} {E : Value → Shared → Prop} {s : Shared} {Q : Value → Shared → Prop}, A.handled = none → St n s.heap → Src s.heap → (∀ h' e tk, Heap.ExtBut i s.heap h' → (∃ o, h'.get? e = some o ∧ o.cls = .type "StopIteration") → E (.ref e) { s with heap := h', toks := tk }) →
    wpAny (model prog w) A (Builtin.SmallTypes.nextOf (.ref i)) Q E s
  stay : ∀ {k : Nat} {h h' : Heap}, St k h → (∀ o, h.get? i = some o → h'.get? i = some o) → St k h'
  obj : ∀ {k : Nat} {h : Heap}, St k h → ∃ o vs, h.get? i = some o ∧ o.data = .fields vs
theorem feed_list {i l : Addr} {its : Array Value} : Feed i its.size (fun k x => its[k]? = some x) (fun k h => h.IsListIter i l k) (fun h => h.IsList l its) where
  give := fun {_ _ _ _ s k _} hk st src q => wpAny_nextOf_list_item st src (Array.getElem?_eq_getElem hk) fun h' a b => q _ h' s.toks (Array.getElem?_eq_getElem hk) a b
  over := fun {_ _ _ _ s _} hh st src q => wpAny_nextOf_list_end hh st src (by simp) fun h' e a b => q h' e s.toks a b
  stay := fun ⟨o, e, r⟩ k => ⟨o, k o e, r⟩
  obj := fun ⟨o, e, _, d⟩ => ⟨o, _, e, d⟩
theorem feed_tup {i l : Addr} {its : Array Value} : Feed i its.size (fun k x => its[k]? = some x) (fun k h => h.IsTupleIter i l k) (fun h => h.IsTuple l its) where
  give := fun {_ _ _ _ s k _} hk st src q => RZ.nextOf_tuple_item st src (Array.getElem?_eq_getElem hk) fun h' a b => q _ h' s.toks (Array.getElem?_eq_getElem hk) a b
  over := fun {_ _ _ _ s _} hh st src q => RZ.nextOf_tuple_end hh st src (by simp) fun h' e a b => q h' e s.toks a b
  stay := fun ⟨o, e, r⟩ k => ⟨o, k o e, r⟩
  obj := fun ⟨o, e, _, d⟩ => ⟨o, _, e, d⟩
/-- the five objects of a zip are apart -/
structure Five (z I O a b : Addr) : Prop where
  Iz : I ≠ z
  Oz : O ≠ z
  az : a ≠ z
  bz : b ≠ z
  IO : I ≠ O
  Ia : I ≠ a
  Ib : I ≠ b
  Oa : O ≠ a
  Ob : O ≠ b
  ab : a ≠ b
/-- what a step of the zip leaves alone -/
def Beside (z O a b : Addr) (h h' : Heap) : Prop := ∀ c o, c ≠ z → c ≠ O → c ≠ a → c ≠ b → h.get? c = some o → h'.get? c = some o
section
variable {prog : Program} {w : World} {A : Around} {E : Value → Shared → Prop} {s : Shared} {z I O a b : Addr} {m n k : Nat} {f g : Nat → Value → Prop} {S1 S2 : Nat → Heap → Prop} {R1 R2 : Heap → Prop} {p q : Value}
theorem zf_give {Q : Value → Shared → Prop} (D : Five z I O a b) (F1 : Feed a m f S1 R1) (F2 : Feed b n g S2 R2) (r1 : ∀ h h', R1 h → Beside z O a b h h' → R1 h') (r2 : ∀ h h', R2 h → Beside z O a b h h' → R2 h')
    (zz : IsZip s.heap z I O .none) (zI : IsPair s.heap I (.ref a) (.ref b)) (zO : IsPair s.heap O p q) (s1 : S1 k s.heap) (s2 : S2 k s.heap) (q1 : R1 s.heap) (q2 : R2 s.heap) (km : k < m) (kn : k < n)
    (hQ : ∀ x y h' tk, f k x → g k y → IsZip h' z I O (rawInt s.heap.objs.size) → IsPair h' O x y → S1 (k + 1) h' → S2 (k + 1) h' → IsPair h' s.heap.objs.size x y → h'.objs.size = s.heap.objs.size + 1 → Beside z O a b s.heap h' → Q (.ref s.heap.objs.size) { s with heap := h', toks := tk }) :
    wpAny (model prog w) A (Builtin.«zip.__next__» ⟨[.ref z], []⟩) (fun fin s' => ∃ v, fin = .done (.ret v) ∧ Q v s') E s := by
  show wpAny _ _ (field (.ref z) 2 >>= _) _ _ _; refine wpAny_bind (wpAny_field zz rfl (x := .bool false) rfl ?_)
  show wpAny _ _ (field (.ref z) 3 >>= _) _ _ _; refine wpAny_bind (wpAny_field zz rfl (x := .ref I) rfl ?_)
  refine wpAny_bind (wpAny_seqItems zI rfl ?_)
  show wpAny _ _ (Builtin.SmallTypes.ownedTupleIsFree (.ref z) >>= _) _ _ _; refine wpAny_bind ?_
  unfold Builtin.SmallTypes.ownedTupleIsFree; refine wpAny_bind (wpAny_field zz rfl (x := .none) rfl (wpAny_pure ?_))
  simp only [if_true]; refine wpAny_bind (wpAny_rule (wpAny_bind (wpAny_field zz rfl (x := .ref O) rfl ?_)))
  refine wpAny_bind (wpAny_setField_rec zz (by simp) fun h1 z1 k1 => ?_)
  replace z1 : IsZip h1 z I O .ellipsis := z1
  refine wpAny_bind ?_
  simp only [List.zipIdx_cons, List.zipIdx_nil, List.forIn_cons, List.forIn_nil]; refine wpAny_bind (wpAny_bind (wpAny_onRaise ?_))
  show wpAny _ _ (Builtin.SmallTypes.nextOf (.ref a) >>= _) _ _ _
  have e1 : ∀ c o, c ≠ z → s.heap.get? c = some o → h1.get? c = some o := fun c o n e => k1.extBut _ _ n e
  refine wpAny_bind (F1.give km (F1.stay s1 fun o => e1 a o D.az) (r1 _ _ q1 fun c o n1 _ _ _ => e1 c o n1) fun x h2 t2 fx s12 k2 => wpAny_pure ?_)
  have e2 : ∀ c o, c ≠ a → h1.get? c = some o → h2.get? c = some o := fun c o n e => k2.extBut _ _ n e
  have O2 : IsPair h2 O p q := e2 _ _ D.Oa (e1 _ _ D.Oz zO)
  refine wpAny_bind (wpAny_seqItems O2 rfl (wpAny_bind (wpAny_updateSeq_pair O2 fun h3 O3 k3 => ?_)))
  replace O3 : IsPair h3 O x q := O3
  have e3 : ∀ c o, c ≠ O → h2.get? c = some o → h3.get? c = some o := fun c o n e => k3.extBut _ _ n e
  refine wpAny_bind (wpAny_letGo (wpAny_pure (wpAny_bind (wpAny_bind (wpAny_onRaise ?_)))))
  show wpAny _ _ (Builtin.SmallTypes.nextOf (.ref b) >>= _) _ _ _
  refine wpAny_bind (F2.give kn (F2.stay s2 fun o e => e3 b o D.Ob.symm (e2 b o D.ab.symm (e1 b o D.bz e))) (r2 _ _ q2 fun c o n1 n2 n3 _ e => e3 c o n2 (e2 c o n3 (e1 c o n1 e))) fun y h4 t4 gy s24 k4 => wpAny_pure ?_)
  have e4 : ∀ c o, c ≠ b → h3.get? c = some o → h4.get? c = some o := fun c o n e => k4.extBut _ _ n e
  have O4 : IsPair h4 O x q := e4 _ _ D.Ob O3
  refine wpAny_bind (wpAny_seqItems O4 rfl (wpAny_bind (wpAny_updateSeq_pair O4 fun h5 O5 k5 => ?_)))
  replace O5 : IsPair h5 O x y := O5
  have e5 : ∀ c o, c ≠ O → h4.get? c = some o → h5.get? c = some o := fun c o n e => k5.extBut _ _ n e
  refine wpAny_bind (wpAny_letGo (wpAny_pure (wpAny_pure (wpAny_bind (wpAny_seqItems O5 rfl (wpAny_bind (wpAny_newTuple ?_)))))))
  have sz : h5.objs.size = s.heap.objs.size := by rw [k5.1, k4.1, k3.1, k2.1, k1.1]
  have z5 : IsZip h5 z I O .ellipsis := e5 _ _ D.Oz.symm (e4 _ _ D.bz.symm (e3 _ _ D.Oz.symm (e2 _ _ D.az.symm z1)))
  have b5 : Beside z O a b s.heap h5 := fun c o n1 n2 n3 n4 e => e5 c o n2 (e4 c o n4 (e3 c o n2 (e2 c o n3 (e1 c o n1 e))))
  have s15 : S1 (k + 1) h5 := F1.stay s12 fun o e => e5 a o D.Oa.symm (e4 a o D.ab (e3 a o D.Oa.symm e))
  have s25 : S2 (k + 1) h5 := F2.stay s24 fun o e => e5 b o D.Ob.symm e
  have zl : z < h5.objs.size := Heap.lt_size z5
  show wpAny _ _ (Builtin.SmallTypes.ownedTupleHandOut (.ref z) (.ref h5.objs.size) >>= _) _ _ _
  refine wpAny_bind ?_; unfold Builtin.SmallTypes.ownedTupleHandOut
  refine wpAny_bind (wpAny_setField_rec (show IsZip (h5.push { cls := .type "tuple", data := .seq #[x, y] }) z I O .ellipsis from Heap.get?_push_of_some _ z5) (by simp) fun h7 z7 k7 => ?_)
  replace z7 : IsZip h7 z I O (rawInt h5.objs.size) := z7
  refine wpAny_setField_rec z7 (by simp) fun h8 z8 k8 => ?_
  replace z8 : IsZip h8 z I O (rawInt h5.objs.size) := z8
  have e8 : ∀ c o, c ≠ z → h5.get? c = some o → h8.get? c = some o := fun c o n e => k8.extBut _ _ n (k7.extBut _ _ n (Heap.get?_push_of_some _ e))
  have T8 : IsPair h8 h5.objs.size x y := k8.extBut _ _ (Nat.ne_of_gt zl) (k7.extBut _ _ (Nat.ne_of_gt zl) (Heap.get?_push_size _ rfl))
  have y8 : h8.objs.size = h5.objs.size + 1 := by rw [k8.1, k7.1, Heap.size_push]
  rw [sz] at z8 T8 y8
  refine wpAny_pure ⟨_, rfl, ?_⟩
  show Q (.ref h5.objs.size) _
  rw [sz]
  exact hQ x y h8 t4 fx gy z8 (e8 _ _ D.Oz O5) (F1.stay s15 fun o => e8 a o D.az) (F2.stay s25 fun o => e8 b o D.bz) T8 y8 fun c o n1 n2 n3 n4 e => e8 c o n1 (b5 c o n1 n2 n3 n4 e)
theorem zf_over {Q : Fin → Shared → Prop} (hh : A.handled = none) (D : Five z I O a b) (F1 : Feed a m f S1 R1) (F2 : Feed b n g S2 R2) (r1 : ∀ h h', R1 h → Beside z O a b h h' → R1 h') (r2 : ∀ h h', R2 h → Beside z O a b h h' → R2 h')
    (zz : IsZip s.heap z I O .none) (zI : IsPair s.heap I (.ref a) (.ref b)) (zO : IsPair s.heap O p q) (s1 : S1 k s.heap) (s2 : S2 k s.heap) (q1 : R1 s.heap) (q2 : R2 s.heap) (he : k = m ∨ (k < m ∧ k = n))
    (hE : ∀ h' e tk, Beside z O a b s.heap h' → (∃ o, h'.get? e = some o ∧ o.cls = .type "StopIteration") → E (.ref e) { s with heap := h', toks := tk }) :
    wpAny (model prog w) A (Builtin.«zip.__next__» ⟨[.ref z], []⟩) Q E s := by
  show wpAny _ _ (field (.ref z) 2 >>= _) _ _ _; refine wpAny_bind (wpAny_field zz rfl (x := .bool false) rfl ?_)
  show wpAny _ _ (field (.ref z) 3 >>= _) _ _ _; refine wpAny_bind (wpAny_field zz rfl (x := .ref I) rfl ?_)
  refine wpAny_bind (wpAny_seqItems zI rfl ?_)
  show wpAny _ _ (Builtin.SmallTypes.ownedTupleIsFree (.ref z) >>= _) _ _ _; refine wpAny_bind ?_
  unfold Builtin.SmallTypes.ownedTupleIsFree; refine wpAny_bind (wpAny_field zz rfl (x := .none) rfl (wpAny_pure ?_))
  simp only [if_true]; refine wpAny_bind (wpAny_rule (wpAny_bind (wpAny_field zz rfl (x := .ref O) rfl ?_)))
  refine wpAny_bind (wpAny_setField_rec zz (by simp) fun h1 z1 k1 => ?_)
  replace z1 : IsZip h1 z I O .ellipsis := z1
  refine wpAny_bind ?_
  simp only [List.zipIdx_cons, List.zipIdx_nil, List.forIn_cons, List.forIn_nil]; refine wpAny_bind (wpAny_bind (wpAny_onRaise ?_))
  show wpAny _ _ (Builtin.SmallTypes.nextOf (.ref a) >>= _) _ _ _
  have e1 : ∀ c o, c ≠ z → s.heap.get? c = some o → h1.get? c = some o := fun c o n e => k1.extBut _ _ n e
  have s11 := F1.stay s1 fun o => e1 a o D.az
  have q11 := r1 _ _ q1 fun c o n1 _ _ _ => e1 c o n1
  have fin : ∀ {h2 : Heap} {t2 : Nat} {e : Addr}, IsZip h2 z I O .ellipsis → Beside z O a b s.heap h2 → (∃ o, h2.get? e = some o ∧ o.cls = .type "StopIteration") → wpAny (model prog w) A (setField (.ref z) 0 .none) (fun _ s' => E (.ref e) s') E { s with heap := h2, toks := t2 } := fun {h2 t2 e} z2 b2 ⟨oe, g, c⟩ => by
    have ne : e ≠ z := fun y => by subst y; rw [z2] at g; cases g; simp at c
    exact wpAny_setField_rec z2 (by simp) fun h3 _ k3 => hE h3 e t2 (fun c o n1 n2 n3 n4 y => k3.extBut _ _ n1 (b2 c o n1 n2 n3 n4 y)) ⟨oe, k3.extBut _ _ ne g, c⟩
  rcases he with rfl | ⟨km, rfl⟩
  · refine wpAny_bind (F1.over hh s11 q11 fun h2 e t2 k2 ex => ?_)
    exact fin (k2 _ _ D.az.symm z1) (fun c o n1 _ n3 _ y => k2 _ _ n3 (e1 c o n1 y)) ex
  · refine wpAny_bind (F1.give km s11 q11 fun x h2 t2 fx s12 k2 => wpAny_pure ?_)
    have e2 : ∀ c o, c ≠ a → h1.get? c = some o → h2.get? c = some o := fun c o n e => k2.extBut _ _ n e
    have O2 : IsPair h2 O p q := e2 _ _ D.Oa (e1 _ _ D.Oz zO)
    refine wpAny_bind (wpAny_seqItems O2 rfl (wpAny_bind (wpAny_updateSeq_pair O2 fun h3 O3 k3 => ?_)))
    have e3 : ∀ c o, c ≠ O → h2.get? c = some o → h3.get? c = some o := fun c o n e => k3.extBut _ _ n e
    refine wpAny_bind (wpAny_letGo (wpAny_pure (wpAny_bind (wpAny_bind (wpAny_onRaise ?_)))))
    show wpAny _ _ (Builtin.SmallTypes.nextOf (.ref b) >>= _) _ _ _
    refine wpAny_bind (F2.over hh (F2.stay s2 fun o e => e3 b o D.Ob.symm (e2 b o D.ab.symm (e1 b o D.bz e))) (r2 _ _ q2 fun c o n1 n2 n3 _ e => e3 c o n2 (e2 c o n3 (e1 c o n1 e))) fun h4 e t4 k4 ex => ?_)
    exact fin (k4 _ _ D.bz.symm (e3 _ _ D.Oz.symm (e2 _ _ D.az.symm z1))) (fun c o n1 n2 n3 n4 y => k4 _ _ n4 (e3 c o n2 (e2 c o n3 (e1 c o n1 y)))) ex
theorem zf_next {Q : Option Value → Shared → Prop} (D : Five z I O a b) (F1 : Feed a m f S1 R1) (F2 : Feed b n g S2 R2) (r1 : ∀ h h', R1 h → Beside z O a b h h' → R1 h') (r2 : ∀ h h', R2 h → Beside z O a b h h' → R2 h')
    (zz : IsZip s.heap z I O .none) (zI : IsPair s.heap I (.ref a) (.ref b)) (zO : IsPair s.heap O p q) (s1 : S1 k s.heap) (s2 : S2 k s.heap) (q1 : R1 s.heap) (q2 : R2 s.heap) (km : k < m) (kn : k < n)
    (hQ : ∀ x y h' tk, f k x → g k y → IsZip h' z I O (rawInt s.heap.objs.size) → IsPair h' O x y → S1 (k + 1) h' → S2 (k + 1) h' → IsPair h' s.heap.objs.size x y → h'.objs.size = s.heap.objs.size + 1 → Beside z O a b s.heap h' → Q (some (.ref s.heap.objs.size)) { s with heap := h', toks := tk }) :
    wpAny (model prog w) A (pyNext (.ref z)) Q E s := by
  have ty : s.TypeIs (.ref z) "zip" := ⟨_, zz, rfl⟩
  unfold pyNext; refine wpAny_bind (wpAny_attempt (wpAny_callSpecial?_slot (name := Str.ofString "__next__") ty F.slot_zip_next (wpAny_call_entry F.slot_zip_next ty F.entry_zip_next (zf_give D F1 F2 r1 r2 zz zI zO s1 s2 q1 q2 km kn fun x y h' tk b1 b2 b3 b4 b5 b6 b7 b8 b9 => ?_) (F.args_zip_next_1 _))))
  exact wpAny_pure (hQ x y h' tk b1 b2 b3 b4 b5 b6 b7 b8 b9)
theorem zf_done {Q : Option Value → Shared → Prop} (hh : A.handled = none) (D : Five z I O a b) (F1 : Feed a m f S1 R1) (F2 : Feed b n g S2 R2) (r1 : ∀ h h', R1 h → Beside z O a b h h' → R1 h') (r2 : ∀ h h', R2 h → Beside z O a b h h' → R2 h')
    (zz : IsZip s.heap z I O .none) (zI : IsPair s.heap I (.ref a) (.ref b)) (zO : IsPair s.heap O p q) (s1 : S1 k s.heap) (s2 : S2 k s.heap) (q1 : R1 s.heap) (q2 : R2 s.heap) (he : k = m ∨ (k < m ∧ k = n))
    (hQ : ∀ h' tk, Beside z O a b s.heap h' → Q none { s with heap := h', toks := tk }) : wpAny (model prog w) A (pyNext (.ref z)) Q E s := by
  have ty : s.TypeIs (.ref z) "zip" := ⟨_, zz, rfl⟩
  unfold pyNext; refine wpAny_bind (wpAny_attempt (wpAny_callSpecial?_slot (name := Str.ofString "__next__") ty F.slot_zip_next (wpAny_call_entry F.slot_zip_next ty F.entry_zip_next (zf_over hh D F1 F2 r1 r2 zz zI zO s1 s2 q1 q2 he fun h' e tk k ⟨o, g, c⟩ => ?_) (F.args_zip_next_1 _))))
  exact wpAny_bind (wpAny_isInstance (T := "StopIteration") (b := true) ⟨o, g, c⟩ isSubtype_stop (wpAny_pure (hQ _ _ k)))
end
end Lj
set_option Elab.async false
set_option linter.all false
set_option maxRecDepth 100000
set_option maxHeartbeats 1000000
namespace Lj
open PySem PySem.Spec PyProof.Rows L2
/-- something that can be walked: St tells its iterator, G that it stands, ls where, xs what it gives -/
structure Sr (P : Program) (w : World) (K : PySem.W.Frag) (St : Addr → Nat → Heap → Prop) (G : Hp → Prop) (ls : List Addr) (xs : List V) : Prop where
  feed : ∀ {X : Cx} {pins : List (Addr × Obj)} {σ : L2.St} {H : Hp} {s : Shared}, X.prog = P → X.w = w → X.K = K → Inv X pins σ H s → G H → ∀ i : Addr, ∃ (f : Nat → Value → Prop) (Src : Heap → Prop), Feed i xs.length f (St i) Src ∧ Src s.heap ∧
    (∀ h h', Src h → (∀ l ∈ ls, ∀ o, h.get? l = some o → h'.get? l = some o) → Src h') ∧ ∀ k u, f k u → ∃ x, xs[k]? = some x ∧ RelV x u
  stay : ∀ {i : Addr} {k : Nat} {h h' : Heap}, St i k h → (∀ o, h.get? i = some o → h'.get? i = some o) → St i k h'
  obj : ∀ {i : Addr} {k : Nat} {h : Heap}, St i k h → ∃ o vs, h.get? i = some o ∧ o.data = .fields vs
theorem sr_list {P : Program} {w : World} {K : PySem.W.Frag} {a : Addr} {xs : List V} : Sr P w K (fun i k h => h.IsListIter i a k) (fun H => SqL K H a xs) [a] xs where
  feed := fun {X pins σ H s} e1 e2 e3 I g i => by
    subst e3
    obtain ⟨its, rv, pl, _⟩ := I.list g
    refine ⟨fun k x => its.toArray[k]? = some x, fun h => h.IsList a its.toArray, ?_, pl.isList, fun h h' q k => ?_, fun k u e => ?_⟩
    · have z := feed_list (i := i) (l := a) (its := its.toArray)
      rw [List.size_toArray, ← rv.length] at z
      exact z
    · obtain ⟨o, ho, r⟩ := q
      exact ⟨o, k a List.mem_cons_self o ho, r⟩
    · have e : its.toArray[k]? = some u := e
      rw [List.getElem?_toArray] at e
      have hk : k < xs.length := by rw [rv.length]; exact (List.getElem?_eq_some_iff.mp e).1
      obtain ⟨u', hu, ru⟩ := rv.get (List.getElem?_eq_getElem hk)
      rw [e] at hu
      cases hu
      exact ⟨_, List.getElem?_eq_getElem hk, ru⟩
  stay := fun ⟨o, e, r⟩ k => ⟨o, k o e, r⟩
  obj := fun ⟨o, e, _, d⟩ => ⟨o, _, e, d⟩
theorem sr_tup {P : Program} {w : World} {K : PySem.W.Frag} {a : Addr} {xs : List V} : Sr P w K (fun i k h => h.IsTupleIter i a k) (fun H => SqT K H a xs) [a] xs where
  feed := fun {X pins σ H s} e1 e2 e3 I g i => by
    subst e3
    obtain ⟨its, rv, pl, _⟩ := I.tuple g
    refine ⟨fun k x => its.toArray[k]? = some x, fun h => h.IsTuple a its.toArray, ?_, pl, fun h h' q k => ?_, fun k u e => ?_⟩
    · have z := feed_tup (i := i) (l := a) (its := its.toArray)
      rw [List.size_toArray, ← rv.length] at z
      exact z
    · obtain ⟨o, ho, r⟩ := q
      exact ⟨o, k a List.mem_cons_self o ho, r⟩
    · have e : its.toArray[k]? = some u := e
      rw [List.getElem?_toArray] at e
      have hk : k < xs.length := by rw [rv.length]; exact (List.getElem?_eq_some_iff.mp e).1
      obtain ⟨u', hu, ru⟩ := rv.get (List.getElem?_eq_getElem hk)
      rw [e] at hu
      cases hu
      exact ⟨_, List.getElem?_eq_getElem hk, ru⟩
  stay := fun ⟨o, e, r⟩ k => ⟨o, k o e, r⟩
  obj := fun ⟨o, e, _, d⟩ => ⟨o, _, e, d⟩
/-- pairs of the things of two sources, as long as both stand -/
def ItF (n : Nat) (G : Hp → Prop) (xs ys : List V) : It :=
  ⟨fun i H => i < n ∧ G H, fun i H v H' => ∃ T x y, v = .ref T ∧ H T = none ∧ H' = upd H T (.tup [x, y]) ∧ xs[i]? = some x ∧ ys[i]? = some y, fun i H => i = n ∧ G H⟩
theorem walk_F {n : Nat} {G : Hp → Prop} {xs ys : List V} : Walk (ItF n G xs ys) n G (YPair (fun i => xs[i]?) (fun i => ys[i]?)) :=
  ⟨fun i _ hi q => ⟨hi, q⟩, fun _ q => ⟨rfl, q⟩, fun i H v H' _ q y => y⟩
def zipTn (S1 S2 : Addr → Nat → Heap → Prop) (z I O a b : Addr) : Nat → Heap → Prop := fun i h => IsZip h z I O .none ∧ IsPair h I (.ref a) (.ref b) ∧ (∃ x y, IsPair h O x y) ∧ S1 a i h ∧ S2 b i h
theorem turn_F {P : Program} {w : World} {K : PySem.W.Frag} {elts : List Expr} {kk : Nat} {tpos : Pos} {z I O a b : Addr} {S1 S2 : Addr → Nat → Heap → Prop} {G1 G2 : Hp → Prop} {l1 l2 : List Addr} {xs ys : List V} (D : Five z I O a b) (F1 : Sr P w K S1 G1 l1 xs) (F2 : Sr P w K S2 G2 l2 ys)
    (n1 : ∀ l ∈ l1, l ≠ z ∧ l ≠ O ∧ l ≠ a ∧ l ≠ b) (n2 : ∀ l ∈ l2, l ≠ z ∧ l ≠ O ∧ l ≠ a ∧ l ≠ b) : Turn P w K (.Tuple elts kk tpos) (ItF (min xs.length ys.length) (fun H => G1 H ∧ G2 H) xs ys) [z, I, O, a, b] z (zipTn S1 S2 z I O a b) where
  mem := List.mem_cons_self
  obj := fun i h st c hc => by
    obtain ⟨q1, q2, ⟨x, y, q3⟩, q4, q5⟩ := st
    obtain ⟨o4, v4, e4, d4⟩ := F1.obj q4
    obtain ⟨o5, v5, e5, d5⟩ := F2.obj q5
    simp only [List.mem_cons, List.not_mem_nil, or_false] at hc
    rcases hc with rfl | rfl | rfl | rfl | rfl
    · exact ⟨_, q1, fun v e => nomatch e⟩
    · exact ⟨_, q2, fun v e => nomatch e⟩
    · exact ⟨_, q3, fun v e => nomatch e⟩
    · exact ⟨o4, e4, fun v e => by rw [d4] at e; cases e⟩
    · exact ⟨o5, e5, fun v e => by rw [d5] at e; cases e⟩
  keep := fun i h h' st k => by
    obtain ⟨q1, q2, ⟨x, y, q3⟩, q4, q5⟩ := st
    exact ⟨k z (by simp) _ q1, k I (by simp) _ q2, ⟨x, y, k O (by simp) _ q3⟩, F1.stay q4 fun o e => k a (by simp) o e, F2.stay q5 fun o e => k b (by simp) o e⟩
  item := by
    intro X hP hw hK hc i pins s σ H E Iv hf st hg
    obtain ⟨q1, q2, ⟨x0, y0, q3⟩, q4, q5⟩ := st
    obtain ⟨hi, g1, g2⟩ := hg
    obtain ⟨f, S, fd, sr, ss, fr⟩ := F1.feed hP hw hK Iv g1 a
    obtain ⟨g, S', fd', sr', ss', fr'⟩ := F2.feed hP hw hK Iv g2 b
    subst hP hw hK
    have zl : z < s.heap.objs.size := Heap.lt_size q1
    have st1 : ∀ h h', S h → Beside z O a b h h' → S h' := fun h h' q k => ss h h' q fun l m o e => k l o (n1 l m).1 (n1 l m).2.1 (n1 l m).2.2.1 (n1 l m).2.2.2 e
    have st2 : ∀ h h', S' h → Beside z O a b h h' → S' h' := fun h h' q k => ss' h h' q fun l m o e => k l o (n2 l m).1 (n2 l m).2.1 (n2 l m).2.2.1 (n2 l m).2.2.2 e
    refine zf_next D fd fd' st1 st2 q1 q2 q3 q4 q5 sr sr' (by omega) (by omega) fun u v h' tk fu gv z' O' s1' s2' T sz bes => ?_
    obtain ⟨x, hx, ru⟩ := fr i u fu
    obtain ⟨y, hy, rv⟩ := fr' i v gv
    refine ⟨_, rfl, wpAny_letOwnedTupleGo_zip (s := { s with heap := h', toks := tk }) z' fun h2 z2 sb => ?_⟩
    have T2 : h2.get? s.heap.objs.size = some { cls := .type "tuple", data := .seq #[u, v] } := (sb.2 _ (Nat.ne_of_gt zl)).trans T
    have new : ObjOk X.prog X.w (upd H s.heap.objs.size (.tup [x, y])) h2 s.heap.objs.size (.tup [x, y]) := ⟨by show 2 ≤ sizeLine; decide, [u, v], .cons ru (.cons rv .nil), ⟨_, T2, rfl, _, rfl⟩⟩
    have I1 : Inv X pins σ (upd H s.heap.objs.size (.tup [x, y])) { s with heap := h2, toks := tk } := Iv.turnedNew (t' := tk) (ch := [z, I, O, a, b]) (fun c o hb e => by
      simp only [List.mem_cons, List.not_mem_nil, or_false, not_or] at hb
      exact (sb.2 c hb.1).trans (bes c o hb.1 hb.2.2.1 hb.2.2.2.1 hb.2.2.2.2 e)) hf (Nat.le_refl _) new
    refine ⟨.ref s.heap.objs.size, _, I1, rfl, ⟨_, x, y, rfl, Iv.hok.fresh (Nat.le_refl _), rfl, hx, hy⟩, ⟨z2, ?_, ⟨u, v, ?_⟩, ?_, ?_⟩, fun c hcm => ?_⟩
    · exact (sb.2 _ D.Iz).trans (bes _ _ D.Iz D.IO D.Ia D.Ib q2)
    · exact (sb.2 _ D.Oz).trans O'
    · exact F1.stay s1' fun o e => (sb.2 _ D.az).trans e
    · exact F2.stay s2' fun o e => (sb.2 _ D.bz).trans e
    · have lt : c < s.heap.objs.size := by
        obtain ⟨o4, _, e4, _⟩ := F1.obj q4
        obtain ⟨o5, _, e5, _⟩ := F2.obj q5
        simp only [List.mem_cons, List.not_mem_nil, or_false] at hcm
        rcases hcm with rfl | rfl | rfl | rfl | rfl
        · exact zl
        · exact Heap.lt_size q2
        · exact Heap.lt_size q3
        · exact Heap.lt_size e4
        · exact Heap.lt_size e5
      rw [upd_ne (Nat.ne_of_lt lt)]
      exact (hf c hcm).1
  done := by
    intro X hP hw hK hc i pins s σ H E Iv hf st hg
    obtain ⟨q1, q2, ⟨x0, y0, q3⟩, q4, q5⟩ := st
    obtain ⟨hi, g1, g2⟩ := hg
    obtain ⟨f, S, fd, sr, ss, fr⟩ := F1.feed hP hw hK Iv g1 a
    obtain ⟨g, S', fd', sr', ss', fr'⟩ := F2.feed hP hw hK Iv g2 b
    subst hP hw hK
    have st1 : ∀ h h', S h → Beside z O a b h h' → S h' := fun h h' q k => ss h h' q fun l m o e => k l o (n1 l m).1 (n1 l m).2.1 (n1 l m).2.2.1 (n1 l m).2.2.2 e
    have st2 : ∀ h h', S' h → Beside z O a b h h' → S' h' := fun h h' q k => ss' h h' q fun l m o e => k l o (n2 l m).1 (n2 l m).2.1 (n2 l m).2.2.1 (n2 l m).2.2.2 e
    refine zf_done (Iv.ok.hd hc) D fd fd' st1 st2 q1 q2 q3 q4 q5 sr sr' (by omega) fun h' tk bes => ⟨rfl, Iv.turnedL (t' := tk) (ch := [z, I, O, a, b]) (fun c o hb e => ?_) hf⟩
    simp only [List.mem_cons, List.not_mem_nil, or_false, not_or] at hb
    exact bes c o hb.1 hb.2.2.1 hb.2.2.2.1 hb.2.2.2.2 e
  self := fun A i s Q E st h => wpAny_pyIter_zip st.1 h
/-! ### zip(list, tuple): its making -/
abbrev zh (h : Heap) (p q : Obj) (a b : Nat) : Heap := (((((h.push p).push q).push { cls := .type "tuple", data := .seq #[.ref a, .ref b] }).push { cls := .type "tuple", data := .seq #[.none, .none] })).push { cls := .type "zip", data := .fields #[.none, .bool false, .bool false, .ref (a + 2), .ref (a + 3)] }
abbrev oLi (l : Addr) : Obj := { cls := .type "list_iterator", data := .fields #[.ref l, .int 0 0] }
abbrev oTi (l : Addr) : Obj := { cls := .type "tuple_iterator", data := .fields #[.ref l, .int 0 0] }
theorem five_new (n : Nat) : Five (n + 4) (n + 2) (n + 3) n (n + 1) := by
  have z : ∀ i j : Nat, i ≠ j → n + i ≠ n + j := fun i j h e => h (Nat.add_left_cancel e)
  exact ⟨z 2 4 (by decide), z 3 4 (by decide), z 0 4 (by decide), z 1 4 (by decide), z 2 3 (by decide), z 2 0 (by decide), z 2 1 (by decide), z 3 0 (by decide), z 3 1 (by decide), z 0 1 (by decide)⟩
theorem new_LT (l1 l2 : Addr) (xs ys : Array Value) : Meets (Builtin.«zip.__new__» ⟨[.type "zip", .ref l1, .ref l2], []⟩) (fun _ R s => s.heap.IsList l1 xs ∧ s.heap.IsTuple l2 ys ∧
      R (.ok (.ret (.ref (s.heap.objs.size + 4)))) { s with heap := zh s.heap (oLi l1) (oTi l2) s.heap.objs.size (s.heap.objs.size + 1) }) :=
  .of_wp fun prog w A R s h => by
    obtain ⟨hp, g, d, tk, os⟩ := s; obtain ⟨t1, t2, h⟩ := h
    have sub := sub_zip
    have T1 : Heap.IsList (Shared.heap ⟨hp, g, d, tk, os⟩) l1 xs := t1
    have T2 : Heap.IsTuple (Shared.heap ⟨hp.push { cls := .type "list_iterator", data := .fields #[.ref l1, .int 0 0] }, g, d, tk, os⟩) l2 ys := Heap.IsTuple.push t2 _
    wp_walk using wpAny_pyIter_list T1, wpAny_pyIter_tuple T2
    refine ⟨_, rfl, ?_⟩
    simp only [Heap.size_push]
    exact h
theorem zh_sz (h : Heap) (p q : Obj) (hp : p.isFreed = false := by rfl) (hq : q.isFreed = false := by rfl) : (zh h p q h.objs.size (h.objs.size + 1)).get? h.objs.size = some p ∧ (zh h p q h.objs.size (h.objs.size + 1)).get? (h.objs.size + 1) = some q ∧
    IsPair (zh h p q h.objs.size (h.objs.size + 1)) (h.objs.size + 2) (.ref h.objs.size) (.ref (h.objs.size + 1)) ∧ IsPair (zh h p q h.objs.size (h.objs.size + 1)) (h.objs.size + 3) .none .none ∧ IsZip (zh h p q h.objs.size (h.objs.size + 1)) (h.objs.size + 4) (h.objs.size + 2) (h.objs.size + 3) .none := by
  have z1 : (h.push p).objs.size = h.objs.size + 1 := Heap.size_push ..
  have z2 : ((h.push p).push q).objs.size = h.objs.size + 2 := by rw [Heap.size_push, z1]
  have z3 : (((h.push p).push q).push { cls := .type "tuple", data := .seq #[.ref h.objs.size, .ref (h.objs.size + 1)] }).objs.size = h.objs.size + 3 := by rw [Heap.size_push, z2]
  have z4 : ((((h.push p).push q).push { cls := .type "tuple", data := .seq #[.ref h.objs.size, .ref (h.objs.size + 1)] }).push { cls := .type "tuple", data := .seq #[.none, .none] }).objs.size = h.objs.size + 4 := by rw [Heap.size_push, z3]
  have up : ∀ {h : Heap} {c : Addr} {o : Obj} (x : Obj), h.get? c = some o → (h.push x).get? c = some o := fun x e => Heap.get?_push_of_some x e
  refine ⟨up _ (up _ (up _ (up _ (Heap.get?_push_size h hp)))), ?_, ?_, ?_, ?_⟩
  · have e := Heap.get?_push_size (h.push p) hq
    rw [z1] at e
    exact up _ (up _ (up _ e))
  · have e := Heap.get?_push_size ((h.push p).push q) (o := { cls := .type "tuple", data := .seq #[.ref h.objs.size, .ref (h.objs.size + 1)] }) rfl
    rw [z2] at e
    exact up _ (up _ e)
  · have e := Heap.get?_push_size (((h.push p).push q).push { cls := .type "tuple", data := .seq #[.ref h.objs.size, .ref (h.objs.size + 1)] }) (o := { cls := .type "tuple", data := .seq #[.none, .none] }) rfl
    rw [z3] at e
    exact up _ e
  · have e := Heap.get?_push_size ((((h.push p).push q).push { cls := .type "tuple", data := .seq #[.ref h.objs.size, .ref (h.objs.size + 1)] }).push { cls := .type "tuple", data := .seq #[.none, .none] }) (o := { cls := .type "zip", data := .fields #[.none, .bool false, .bool false, .ref (h.objs.size + 2), .ref (h.objs.size + 3)] }) rfl
    rw [z4] at e
    exact e
def iZipLT (K : PySem.W.Frag) (ta : TA) : TI := fun σ H R => ta σ H fun vs H1 => ∃ (a b : Addr) (xs ys : List V), vs = [.ref a, .ref b] ∧ SqL K H1 a xs ∧ SqT K H1 b ys ∧ R (ItF (min xs.length ys.length) (fun H => SqL K H a xs ∧ SqT K H b ys) xs ys) H1
/-- zip(list, tuple) -/
theorem pi_zipLT {X : Cx} {e e2 : Expr} {ta : TA} {p pos tpos : Pos} {elts : List Expr} {kk : Nat} (hg : Gl X "zip") (hm : X.mg "zip" = none) (ha : PA X [e, e2] ta)
    (hs : starEach [e, e2] X.env = (false, eval e X.env) :: starEach [e2] X.env := by rfl) (hpl : (backTo pos (starEach [e2] X.env)).any (·.1) = false := by rfl) :
    PI X (.Tuple elts kk tpos) (.Call (.Name "zip" p) [e, e2] [] pos) (iZipLT X.K ta) := by
  refine ⟨fun pins s σ H R I h => Call_ (ld_blt I hg hm PyProof.Rows.boot_zip (PyProof.Rows.callWith_type1 (thn (ha.run pos pins s σ H _ I h) fun us s1 ⟨vs, H1, I1, r1, a, b, xs, ys, ex, g1, g2, q⟩ => ?_) hs hpl))⟩
  subst ex
  obtain ⟨u1, u2, rfl, ra, rb⟩ := r1.two
  cases ra
  cases rb
  obtain ⟨its, rv, p1, _⟩ := I1.list g1
  obtain ⟨its2, rv2, p2, _⟩ := I1.tuple g2
  have al : a < s1.heap.objs.size := p1.lt
  have bl : b < s1.heap.objs.size := by
    obtain ⟨o, ho, _⟩ := p2
    exact Heap.lt_size ho
  refine callType_new F.called_zip (by decide) (F.typeCall_zip_2 _ _) (F.newCall_zip_2 _ _) (fun obj => F.args_object_init_3 obj _ _) F.entry_zip_new (new_LT a b its.toArray its2.toArray) ⟨p1.isList, p2, ?_⟩
  obtain ⟨f1, f2, f3, f4, f5⟩ := zh_sz s1.heap (oLi a) (oTi b)
  have keep : ∀ c o, s1.heap.get? c = some o → (zh s1.heap (oLi a) (oTi b) s1.heap.objs.size (s1.heap.objs.size + 1)).get? c = some o := fun c o e => Heap.get?_push_of_some _ (Heap.get?_push_of_some _ (Heap.get?_push_of_some _ (Heap.get?_push_of_some _ (Heap.get?_push_of_some _ e))))
  refine ⟨⟨_, f5, rfl⟩, wpAny_pyIter_zip f5 ?_⟩
  have I2 : Inv X pins σ H1 { s1 with heap := zh s1.heap (oLi a) (oTi b) s1.heap.objs.size (s1.heap.objs.size + 1) } := I1.kept (t' := s1.toks) keep
  have ap : ∀ {l : Addr}, l < s1.heap.objs.size → l ≠ s1.heap.objs.size + 4 ∧ l ≠ s1.heap.objs.size + 3 ∧ l ≠ s1.heap.objs.size ∧ l ≠ s1.heap.objs.size + 1 := fun {l} h =>
    ⟨Nat.ne_of_lt (Nat.lt_add_right _ h), Nat.ne_of_lt (Nat.lt_add_right _ h), Nat.ne_of_lt h, Nat.ne_of_lt (Nat.lt_add_right _ h)⟩
  refine ⟨s1.heap.objs.size + 4, [s1.heap.objs.size + 4, s1.heap.objs.size + 2, s1.heap.objs.size + 3, s1.heap.objs.size, s1.heap.objs.size + 1], _, _, H1, rfl, I2, turn_F (five_new s1.heap.objs.size) (sr_list (a := a) (xs := xs)) (sr_tup (a := b) (xs := ys)) (fun l m => by rw [List.mem_singleton.mp m]; exact ap al) (fun l m => by rw [List.mem_singleton.mp m]; exact ap bl), ⟨f5, f3, ⟨_, _, f4⟩, ⟨_, f1, rfl, rfl⟩, ⟨_, f2, rfl, rfl⟩⟩, fun c hcm => ?_, q⟩
  have le : s1.heap.objs.size ≤ c := by
    simp only [List.mem_cons, List.not_mem_nil, or_false] at hcm
    rcases hcm with rfl | rfl | rfl | rfl | rfl
    · exact Nat.le_add_right _ _
    · exact Nat.le_add_right _ _
    · exact Nat.le_add_right _ _
    · exact Nat.le_refl _
    · exact Nat.le_add_right _ _
  exact I1.fpOk le (I1.hok.fresh le)
end Lj
set_option Elab.async false
set_option linter.all false
set_option maxRecDepth 100000
namespace Lj
open PySem PySem.Spec PyProof.Rows L2
/-! ### data of any kind, dicts too -/
def kD : Key → PyData
  | .inl i => .int i
  | .inr x => .str x
mutual
inductive Dd (K : PySem.W.Frag) (H : Hp) : V → PyData → Prop
  | non : Dd K H .non .none
  | bl (b : Bool) : Dd K H (.bl b) (.bool b)
  | int (i : Int) : Dd K H (.int i) (.int i)
  | str (x : Str) : Dd K H (.str x) (.str x)
  | lst {a : Addr} {xs : List V} {ds : List PyData} (q : SqL K H a xs) (r : DdAll K H xs ds) : Dd K H (.ref a) (.list ds)
  | tup {a : Addr} {xs : List V} {ds : List PyData} (q : SqT K H a xs) (r : DdAll K H xs ds) : Dd K H (.ref a) (.tuple ds)
  | dct {a : Addr} {kvs : List (Key × V)} {kds : List (PyData × PyData)} (q : H a = some (.dK kvs)) (e : kvs.map (fun kv => kD kv.1) = kds.map (·.1)) (r : DdAll K H (kvs.map (·.2)) (kds.map (·.2))) : Dd K H (.ref a) (.dict kds)
inductive DdAll (K : PySem.W.Frag) (H : Hp) : List V → List PyData → Prop
  | nil : DdAll K H [] []
  | cons {v : V} {vs : List V} {d : PyData} {ds : List PyData} (h : Dd K H v d) (t : DdAll K H vs ds) : DdAll K H (v :: vs) (d :: ds)
end
section
variable {X : Cx} {pins : List (Addr × Obj)} {σ : L2.St} {H : Hp} {s : Shared}
/-- the keys of a dict, as texts -/
theorem keys_show {P : Program} {w : World} {h : Heap} {n : Nat} : ∀ {es : List DictEntry} {vs : List (Key × Value)} {ks : List PyData}, Pairs (mixKind P w) es vs → vs.map (fun kv => kD kv.1) = ks → PyData.showableAll ks = true → (∀ t ∈ PyData.shownAll ks, t.length ≤ sizeLine) →
    (∃ as, ReadsAll h (es.map (·.key)) ks as) ∧ ReprAllK P w [] h n (es.map (·.key)) (PyData.shownAll ks) := by
  intro es vs ks hp
  induction hp generalizing ks with
  | nil =>
    rintro rfl _ _
    exact ⟨⟨_, .nil⟩, .nil⟩
  | @cons e kv es kvs hk hv _ ih =>
    rintro rfl hs hz
    simp only [List.map_cons, PyData.showableAll, Bool.and_eq_true] at hs
    obtain ⟨⟨as, i1⟩, i2⟩ := ih rfl hs.2 fun t m => hz t (by simp only [List.map_cons, PyData.shownAll]; exact List.mem_cons_of_mem _ m)
    have hz0 := hz (kD kv.1).shown (by simp only [List.map_cons, PyData.shownAll]; exact List.mem_cons_self ..)
    rcases keyIs_shape hk with ⟨i, t, e1, e2⟩ | ⟨x, t, e1, e2⟩
    · rw [e1] at hs hz0
      refine ⟨⟨[] ++ as, ?_⟩, ?_⟩
      · simp only [List.map_cons, e1, e2]
        exact .cons (.int i t) i1
      · simp only [List.map_cons, e1, e2, PyData.shownAll]
        exact .cons (.of_is (ReprIs.int t (of_decide_eq_true hs.1)) _ _ _) i2
    · rw [e1] at hs hz0
      refine ⟨⟨[] ++ as, ?_⟩, ?_⟩
      · simp only [List.map_cons, e1, e2]
        exact .cons (.str x t) i1
      · simp only [List.map_cons, e1, e2, PyData.shownAll]
        exact .cons (.of_is (ReprIs.str x t hz0) _ _ _) i2
theorem vals_of_pairs {P : Program} {w : World} : ∀ {es : List DictEntry} {vs : List (Key × Value)} {kvs : List (Key × V)}, Pairs (mixKind P w) es vs → KV kvs vs → Vals (kvs.map (·.2)) (es.map (·.val)) ∧ vs.map (fun kv => kD kv.1) = kvs.map (fun kv => kD kv.1) := by
  intro es vs kvs hp
  induction hp generalizing kvs with
  | nil =>
    intro r
    cases r
    exact ⟨.nil, rfl⟩
  | @cons e kv es vs hk hv _ ih =>
    intro r
    cases r with
    | @cons p _ ps _ h t =>
      obtain ⟨i1, i2⟩ := ih t
      exact ⟨.cons (by show RelV p.2 e.val; rw [hv]; exact h.2) i1, by simp only [List.map_cons, i2, h.1]⟩
/-- what is known of a thing to be shown -/
def Sho (P : Program) (w : World) (h : Heap) (u : Value) (d : PyData) : Prop := (∃ as, Reads h u d as) ∧ ∃ bs, ReadAtMost h d.depth bs ∧ ReprK P w bs h d.depth u d.shown
def ShoAll (P : Program) (w : World) (h : Heap) (us : List Value) (ds : List PyData) : Prop := (∃ as, ReadsAll h us ds as) ∧ ∃ bs, ReadAtMost h (PyData.depthAll ds) bs ∧ ReprAllK P w bs h (PyData.depthAll ds) us (PyData.shownAll ds)
theorem no_at {h : Heap} {n : Nat} : ReadAtMost h n [] := fun _ m => nomatch m
mutual
theorem Dd.sho (I : Inv X pins σ H s) : ∀ {v : V} {d : PyData} {u : Value}, Dd X.K H v d → RelV v u → d.showable = true → d.shown.length ≤ sizeLine → Sho X.prog X.w s.heap u d
  | _, _, _, .non, r, _, _ => by
    cases r
    exact ⟨⟨_, .none⟩, [], no_at, .of_is ReprIs.none _ _ _⟩
  | _, _, _, .bl b, r, _, _ => by
    cases r
    exact ⟨⟨_, .bool b⟩, [], no_at, .of_is (ReprIs.bool b) _ _ _⟩
  | _, _, _, .int i, r, hs, _ => by
    obtain ⟨t, rfl⟩ := r
    exact ⟨⟨_, .int i t⟩, [], no_at, .of_is (ReprIs.int t (of_decide_eq_true hs)) _ _ _⟩
  | _, _, _, .str x, r, _, hz => by
    obtain ⟨t, rfl⟩ := r
    exact ⟨⟨_, .str x t⟩, [], no_at, .of_is (ReprIs.str x t hz) _ _ _⟩
  | _, _, _, .lst (a := a) (xs := xs) (ds := ds) q rr, r, hs, hz => by
    cases r
    obtain ⟨its, rv, ⟨o, n, ho, hc, _, hd⟩, _⟩ := I.list q
    obtain ⟨⟨as, rd⟩, bs, rb, rk⟩ := Dd.shoAll I rr rv hs fun t m => Nat.le_trans (listText_mem_le m) hz
    have top : Reads s.heap (.ref a) (.list ds) (a :: as) := .list ho hc hd rd
    refine ⟨⟨_, top⟩, a :: bs, ReadAtMost.cons top (Nat.le_succ _) rb, ?_⟩
    cases its with
    | nil =>
      cases rd
      exact ReprK.listEmpty ho hc hd
    | cons x l => exact ReprK.list ho hc hd (not_mem_of_deeper top (Nat.lt_succ_self _) rb) rk.length_eq fun i y e => rk.item i y (by rw [List.getElem?_toArray] at e; exact e)
  | _, _, _, .tup (a := a) (xs := xs) (ds := ds) q rr, r, hs, hz => by
    cases r
    obtain ⟨its, rv, ⟨o, ho, hc, n, hd⟩, _⟩ := I.tuple q
    obtain ⟨⟨as, rd⟩, bs, rb, rk⟩ := Dd.shoAll I rr rv hs fun t m => Nat.le_trans (tupleText_mem_le m) hz
    have top : Reads s.heap (.ref a) (.tuple ds) as := .tuple ho hc hd rd
    exact ⟨⟨_, top⟩, a :: bs, ReadAtMost.cons top (Nat.le_succ _) rb, ReprK.tuple ho hc hd (not_mem_of_deeper top (Nat.lt_succ_self _) rb) rk⟩
  | _, _, _, .dct (a := a) (kvs := kvs) (kds := kds) q e rr, r, hs, hz => by
    cases r
    obtain ⟨_, hsys, vs, kv, o, es, ep, ho, hc, hd, _, hp, _⟩ := (show ObjOk X.prog X.w H s.heap a (.dK kvs) from I.hok a _ q)
    obtain ⟨s1, s2⟩ := PyData.showableKv_split kds hs
    obtain ⟨v1, v2⟩ := vals_of_pairs hp kv
    obtain ⟨⟨as, rd⟩, bs, rb, rk⟩ := Dd.shoAll I rr v1 s2 fun t m => by
      obtain ⟨p, mp, hl⟩ := PyData.shownKv_val_le kds t m
      exact Nat.le_trans hl (Nat.le_trans (dictText_mem_le mp) hz)
    obtain ⟨⟨as2, kr⟩, kk⟩ := keys_show (h := s.heap) (n := PyData.depthKv kds) hp (v2.trans e) s1 fun t m => by
      obtain ⟨p, mp, hl⟩ := PyData.shownKv_key_le kds t m
      exact Nat.le_trans hl (Nat.le_trans (dictText_mem_le mp) hz)
    have top : Reads s.heap (.ref a) (.dict kds) (a :: as2 ++ as) := .dict ho hc.1 hd kr rd
    have rb' := rb.mono (PyData.depthAll_vals_le kds)
    refine ⟨⟨_, top⟩, a :: bs, ReadAtMost.cons top (Nat.le_succ _) rb', ?_⟩
    have nm : a ∉ bs := not_mem_of_deeper top (Nat.lt_succ_self _) rb'
    have en := ReprEntriesK.of_two es.toList _ _ (kk.more_le (fun b (hb : b ∈ ([] : List Addr)) => absurd hb List.not_mem_nil) (Nat.le_refl _)) (rk.more_le (fun b hb => hb) (PyData.depthAll_vals_le kds))
    rw [← PyData.shownKv_eq] at en
    exact ReprK.dict ho hc.1 hd hsys nm en
theorem Dd.shoAll (I : Inv X pins σ H s) : ∀ {vs : List V} {ds : List PyData} {us : List Value}, DdAll X.K H vs ds → Vals vs us → PyData.showableAll ds = true → (∀ t ∈ PyData.shownAll ds, t.length ≤ sizeLine) → ShoAll X.prog X.w s.heap us ds
  | _, _, _, .nil, r, _, _ => by
    cases r
    exact ⟨⟨_, .nil⟩, [], no_at, .nil⟩
  | _, _, _, .cons (d := d) (ds := ds) h t, .cons r1 r2, hs, hz => by
    have hs' : (d.showable && PyData.showableAll ds) = true := hs
    rw [Bool.and_eq_true] at hs'
    obtain ⟨⟨as, a1⟩, bs, b1, k1⟩ := Dd.sho I h r1 hs'.1 (hz _ (List.mem_cons_self ..))
    obtain ⟨⟨as2, a2⟩, bs2, b2, k2⟩ := Dd.shoAll I t r2 hs'.2 fun t m => hz t (List.mem_cons_of_mem _ m)
    refine ⟨⟨_, .cons a1 a2⟩, bs ++ bs2, (b1.mono (Nat.le_max_left _ _)).append (b2.mono (Nat.le_max_right _ _)), .cons ?_ ?_⟩
    · exact (k1.more fun b m => List.mem_append_left _ m).level_le (Nat.le_max_left _ _)
    · exact k2.more_le (fun b m => List.mem_append_right _ m) (Nat.le_max_right _ _)
end
end
/-- repr of data of any kind -/
theorem repr_any {X : Cx} {pins : List (Addr × Obj)} {σ : L2.St} {H : Hp} {s : Shared} {v : V} {u : Value} {d : PyData} {A : Around} {E : Value → Shared → Prop} {Q : Value → Shared → Prop} (I : Inv X pins σ H s) (dd : Dd X.K H v d) (r : RelV v u) (sh : d.showable = true) (hg : A.guards = some []) (hu : A.units + (d.depth + 1) < cLine) (sz : d.shown.length ≤ sizeLine)
    (hQ : ∀ h' t tk, (∀ b o, s.heap.get? b = some o → h'.get? b = some o) → Q (.str d.shown t) { s with heap := h', toks := tk }) : wpAny (model X.prog X.w) A (call (.builtin "repr") [u]) Q E s := by
  have no : ∀ b o, s.heap.get? b = some o → s.heap.get? b = some o := fun _ _ e => e
  cases dd with
  | non =>
    cases r
    exact _root_.PySem.P.repr_of_none (hQ s.heap s.toks (s.toks + 1) no)
  | bl b =>
    cases r
    refine _root_.PySem.P.repr_of_bool ?_
    cases b
    · exact hQ s.heap s.toks (s.toks + 1) no
    · exact hQ s.heap s.toks (s.toks + 1) no
  | int i =>
    obtain ⟨t, rfl⟩ := r
    exact _root_.PySem.P.repr_of_int (of_decide_eq_true sh) (hQ s.heap s.toks (s.toks + 1) no)
  | str x =>
    obtain ⟨t, rfl⟩ := r
    exact _root_.PySem.P.repr_of_str (hQ s.heap s.toks (s.toks + 1) no) sz
  | @lst a xs ds q rr =>
    cases r
    obtain ⟨its, rv, ⟨o, n, ho, hc, _, hd⟩, _⟩ := I.list q
    obtain ⟨⟨as, rd⟩, bs, rb, rk⟩ := Dd.shoAll I rr rv sh fun t m => Nat.le_trans (listText_mem_le m) sz
    have top : Reads s.heap (.ref a) (.list ds) (a :: as) := .list ho hc hd rd
    have nm := not_mem_of_deeper top (Nat.lt_succ_self _) rb
    have hu' : A.units + (PyData.depthAll ds + 1 + 1) < cLine := hu
    refine call_repr_slot (T := "list") (by omega) ⟨o, ho, hc⟩ F.slot_list_repr.toG ?_
    cases its with
    | nil =>
      cases rd
      exact call_list_repr_empty ⟨o, ho, hc⟩ ho hd ⟨_, _, rfl, hQ s.heap _ _ no⟩
    | cons x l => exact call_list_reprK (A := A.in1) ho hc hd nm rk.length_eq (fun i y e => rk.item i y (by rw [List.getElem?_toArray] at e; exact e)) hg (fun b _ => Clear.nil b) (by show A.units + 1 + _ < cLine; omega) no (fun h' t tk k => ⟨_, _, rfl, hQ h' t tk k⟩) sz
  | @tup a xs ds q rr =>
    cases r
    obtain ⟨its, rv, ⟨o, ho, hc, n, hd⟩, _⟩ := I.tuple q
    obtain ⟨⟨as, rd⟩, bs, rb, rk⟩ := Dd.shoAll I rr rv sh fun t m => Nat.le_trans (tupleText_mem_le m) sz
    have top : Reads s.heap (.ref a) (.tuple ds) as := .tuple ho hc hd rd
    have nm := not_mem_of_deeper top (Nat.lt_succ_self _) rb
    have hu' : A.units + (PyData.depthAll ds + 1 + 1) < cLine := hu
    exact call_repr_slot (T := "tuple") (by omega) ⟨o, ho, hc⟩ F.slot_tuple_repr (call_tuple_reprK (A := A.in1) ho hc hd nm rk hg (fun b _ => Clear.nil b) (by show A.units + 1 + _ < cLine; omega) no (fun h' t tk k => ⟨_, _, rfl, hQ h' t tk k⟩) sz)
  | @dct a kvs kds q e rr =>
    cases r
    obtain ⟨_, hsys, vs, kv, o, es, ep, ho, hc, hd, _, hp, _⟩ := (show ObjOk X.prog X.w H s.heap a (.dK kvs) from I.hok a _ q)
    obtain ⟨s1, s2⟩ := PyData.showableKv_split kds sh
    obtain ⟨v1, v2⟩ := vals_of_pairs hp kv
    obtain ⟨⟨as, rd⟩, bs, rb, rk⟩ := Dd.shoAll I rr v1 s2 fun t m => by
      obtain ⟨p, mp, hl⟩ := PyData.shownKv_val_le kds t m
      exact Nat.le_trans hl (Nat.le_trans (dictText_mem_le mp) sz)
    obtain ⟨⟨as2, kr⟩, kk⟩ := keys_show (h := s.heap) (n := PyData.depthKv kds) hp (v2.trans e) s1 fun t m => by
      obtain ⟨p, mp, hl⟩ := PyData.shownKv_key_le kds t m
      exact Nat.le_trans hl (Nat.le_trans (dictText_mem_le mp) sz)
    have top : Reads s.heap (.ref a) (.dict kds) (a :: as2 ++ as) := .dict ho hc.1 hd kr rd
    have nm : a ∉ bs := not_mem_of_deeper top (Nat.lt_succ_self _) (rb.mono (PyData.depthAll_vals_le kds))
    have en := ReprEntriesK.of_two es.toList _ _ (kk.more_le (fun b (hb : b ∈ ([] : List Addr)) => absurd hb List.not_mem_nil) (Nat.le_refl _)) (rk.more_le (fun b hb => hb) (PyData.depthAll_vals_le kds))
    rw [← PyData.shownKv_eq] at en
    have hu' : A.units + (PyData.depthKv kds + 1 + 1) < cLine := hu
    exact call_repr_slot (T := "dict") (by omega) ⟨o, ho, hc.1⟩ F.slot_dict_repr (call_dict_reprK (A := A.in1) ho hc.1 hd hsys nm en hg (fun b _ => Clear.nil b) (by show A.units + 1 + _ < cLine; omega) no (fun h' t tk k => ⟨_, _, rfl, hQ h' t tk k⟩) sz)
def rReprA (K : PySem.W.Frag) : List V → Hp → VK → Prop := fun xs H Q => ∃ x d, xs = [x] ∧ Dd K H x d ∧ d.showable = true ∧ d.depth ≤ 64 ∧ d.shown.length ≤ sizeLine ∧ Q (.str d.shown) H
theorem call_reprA {X : Cx} {K : PySem.W.Frag} {k : Nat} (h : X.K = K) (hg : X.A.guards = some []) (hr : Room k X.A) : CallR X (.builtin "repr") (rReprA K) := by
  subst h
  intro pins s σ H xs us Q I r h
  obtain ⟨x, d, rfl, dd, sh, de, sz, q⟩ := h
  obtain ⟨u, rfl, ru⟩ := r.one
  have un := hr.un
  exact repr_any I dd ru sh hg (by omega) sz fun h' t tk keep => ⟨.str _, H, I.kept keep, ⟨_, rfl⟩, q⟩
/-! ### it stays -/
mutual
theorem Dd.kt {K : PySem.W.Frag} {H H' : Hp} (l : ∀ {a xs}, SqL K H a xs → SqL K H' a xs) (t : ∀ {a xs}, SqT K H a xs → SqT K H' a xs) (k : ∀ {a kvs}, H a = some (.dK kvs) → H' a = some (.dK kvs)) : ∀ {v : V} {d : PyData}, Dd K H v d → Dd K H' v d
  | _, _, .non => .non
  | _, _, .bl b => .bl b
  | _, _, .int i => .int i
  | _, _, .str x => .str x
  | _, _, .lst q r => .lst (l q) (DdAll.kt l t k r)
  | _, _, .tup q r => .tup (t q) (DdAll.kt l t k r)
  | _, _, .dct q e r => .dct (k q) e (DdAll.kt l t k r)
theorem DdAll.kt {K : PySem.W.Frag} {H H' : Hp} (l : ∀ {a xs}, SqL K H a xs → SqL K H' a xs) (t : ∀ {a xs}, SqT K H a xs → SqT K H' a xs) (k : ∀ {a kvs}, H a = some (.dK kvs) → H' a = some (.dK kvs)) : ∀ {vs : List V} {ds : List PyData}, DdAll K H vs ds → DdAll K H' vs ds
  | _, _, .nil => .nil
  | _, _, .cons h t' => .cons (Dd.kt l t k h) (DdAll.kt l t k t')
end
theorem tup_same {K : PySem.W.Frag} {H H' : Hp} {a : Addr} {xs : List V} (s : Same H H') (h : SqT K H a xs) : SqT K H' a xs := by
  rcases h with (h | ⟨o, h⟩) | h
  · exact .inl (.inl (s _ _ h))
  · exact .inl (.inr ⟨o, s _ _ h⟩)
  · exact .inr h
theorem Dd.same {K : PySem.W.Frag} {H H' : Hp} {v : V} {d : PyData} (s : Same H H') (h : Dd K H v d) : Dd K H' v d := h.kt (fun q => s.seq q) (fun q => tup_same s q) (fun q => s _ _ q)
/-- the heap but for what stands at u -/
def off (u : Addr) (H : Hp) : Hp := fun b => if b = u then none else H b
theorem off_same {u : Addr} {H : Hp} : Same (off u H) H := fun b o h => by
  unfold off at h
  split at h
  · cases h
  · exact h
theorem off_but {u : Addr} {H H' : Hp} (k : But u H H') : Same (off u H) (off u H') := fun b o h => by
  unfold off at h ⊢
  split at h
  · cases h
  · rename_i n
    rw [if_neg n]
    exact k b o n h
theorem off_at {u p : Addr} {H : Hp} {o : HO} (h : H p = some o) (n : p ≠ u) : off u H p = some o := by
  unfold off
  rw [if_neg n]
  exact h
theorem Dd.but {K : PySem.W.Frag} {u : Addr} {H H' : Hp} {v : V} {d : PyData} (k : But u H H') (h : Dd K (off u H) v d) : Dd K (off u H') v d := h.same (off_but k)
theorem Dd.on {K : PySem.W.Frag} {u : Addr} {H : Hp} {v : V} {d : PyData} (h : Dd K (off u H) v d) : Dd K H v d := h.same off_same
/-- the kind of a thing -/
theorem Dd.ty {K : PySem.W.Frag} {H : Hp} {v : V} {d : PyData} (h : Dd K H v d) : ∃ T : String, TyX K H v (.type T) ∧ (T = "int" ↔ ∃ i, v = .int i) ∧ (T = "bool" ↔ ∃ b, v = .bl b) ∧ T ∈ ["NoneType", "bool", "int", "str", "list", "tuple", "dict"] := by
  cases h with
  | non => exact ⟨"NoneType", .base .non, by simp, by simp, by simp⟩
  | bl b => exact ⟨"bool", .base (.bl b), by simp, by simp, by simp⟩
  | int i => exact ⟨"int", .base (.int i), by simp, by simp, by simp⟩
  | str x => exact ⟨"str", .base (.str x), by simp, by simp, by simp⟩
  | lst q r =>
    refine ⟨"list", ?_, by simp, by simp, by simp⟩
    rcases q with (q | ⟨o, q⟩) | ⟨o, its, n, q, c, _⟩
    · exact .base (.lst q)
    · exact .base (.frz q)
    · exact .kList q c
  | tup q r =>
    refine ⟨"tuple", ?_, by simp, by simp, by simp⟩
    rcases q with (q | ⟨o, q⟩) | ⟨o, its, n, q, c, _⟩
    · exact .base (.tup q)
    · exact .fTuple q
    · exact .kTuple q c
  | dct q e r => exact ⟨"dict", .base (.dK q), by simp, by simp, by simp⟩
/-! ### data that is shown in few signs -/
def Nice (n : Nat) (d : PyData) : Prop := d.showable = true ∧ d.depth ≤ n ∧ d.shown.length ≤ 3000 + 20 * n
theorem Nice.up {n m : Nat} {d : PyData} (h : Nice n d) (l : n ≤ m) : Nice m d := ⟨h.1, Nat.le_trans h.2.1 l, Nat.le_trans h.2.2 (by omega)⟩
theorem Nice.line {n : Nat} {d : PyData} (h : Nice n d) (l : n ≤ 64) : d.showable = true ∧ d.depth ≤ 64 ∧ d.shown.length ≤ sizeLine := ⟨h.1, Nat.le_trans h.2.1 l, Nat.le_trans h.2.2 (by rw [sizeLine_eq]; omega)⟩
theorem nice_int {i : Int} (h : i.natAbs.log2 < 1920) : Nice 0 (.int i) := by
  obtain ⟨a, _, b, c⟩ := leaf_int h
  exact ⟨a, Nat.le_of_eq b, Nat.le_trans c (by decide)⟩
theorem tup1_len (t : Str) : (tupleText [t]).length = t.length + 3 := by
  unfold tupleText
  rw [strLen_append, strLen_append]
  show 1 + t.length + 2 = t.length + 3
  omega
theorem lst1_len (t : Str) : (listText [t]).length = t.length + 2 := by
  unfold listText
  rw [strLen_append]
  show (("[" : Str) ++ ("" : Str) ++ t).length + 1 = t.length + 2
  rw [strLen_append, strLen_append]
  show 1 + 0 + t.length + 1 = t.length + 2
  omega
theorem dct1_len (t : Str) : (dictText [t]).length = t.length + 2 := by
  unfold dictText
  rw [strLen_append, strLen_append]
  show 1 + t.length + 1 = t.length + 2
  omega
theorem tup2_len (t u : Str) : (tupleText [t, u]).length = t.length + u.length + 4 := by
  unfold tupleText
  have e := join_length_add [t, u] (by simp)
  rw [piled_cons, piled_cons, piled_nil] at e
  rw [strLen_append, strLen_append]
  show 1 + (Str.join ", " [t, u]).length + 1 = _
  omega
theorem nice_tup1 {n : Nat} {d : PyData} (h : Nice n d) : Nice (n + 1) (.tuple [d]) := by
  obtain ⟨a, b, c⟩ := h
  refine ⟨by simp only [PyData.showable, PyData.showableAll, a, Bool.and_self], ?_, ?_⟩
  · simp only [PyData.depth, PyData.depthAll]
    omega
  · simp only [PyData.shown, PyData.shownAll, tup1_len]
    omega
theorem nice_lst1 {n : Nat} {d : PyData} (h : Nice n d) : Nice (n + 1) (.list [d]) := by
  obtain ⟨a, b, c⟩ := h
  refine ⟨by simp only [PyData.showable, PyData.showableAll, a, Bool.and_self], ?_, ?_⟩
  · simp only [PyData.depth, PyData.depthAll]
    omega
  · simp only [PyData.shown, PyData.shownAll, lst1_len]
    omega
theorem nice_dct1 {n : Nat} {d : PyData} {x : Str} (hx : (reprText x).length ≤ 10) (h : Nice n d) : Nice (n + 1) (.dict [(.str x, d)]) := by
  obtain ⟨a, b, c⟩ := h
  refine ⟨by simp only [PyData.showable, PyData.showableKv, a, Bool.and_self], ?_, ?_⟩
  · simp only [PyData.depth, PyData.depthKv]
    omega
  · simp only [PyData.shown, PyData.shownKv, dct1_len]
    rw [strLen_append, strLen_append]
    show (reprText x).length + 2 + d.shown.length + 2 ≤ _
    omega
theorem nice_tup2 {n : Nat} {d e : PyData} (h : Nice n d) (k : Nice 0 e) (l : e.shown.length ≤ 10) : Nice (n + 1) (.tuple [d, e]) := by
  obtain ⟨a, b, c⟩ := h
  obtain ⟨a', b', _⟩ := k
  refine ⟨by simp only [PyData.showable, PyData.showableAll, a, a', Bool.and_self], ?_, ?_⟩
  · simp only [PyData.depth, PyData.depthAll]
    omega
  · simp only [PyData.shown, PyData.shownAll, tup2_len]
    omega
end Lj
set_option Elab.async false
set_option linter.all false
set_option maxRecDepth 100000
namespace Lj
open PySem PySem.Spec PyProof.Rows L2
theorem div_ok {i j : Int} {k : Nat} (h0 : 0 < j) (h : j.natAbs < 2 ^ k) (k0 : 0 < k) (k1 : k ≤ 9000) : CDivP i j := ⟨h0, PyProof.noPylong_of_log2 (Nat.lt_of_lt_of_le (PySem.Flt.log2_lt_of k0 h) k1)⟩
/-! ### the last step that assigns a register -/
/-- the registers that an instruction assigns -/
def asgs (w : Str) (as : List Int) : List Int := if w = "swap" then as else if w = "write" then [] else as.take 1
def Tr.asg (x : Int) : Tr → Bool
  | .op w as => decide (x ∈ asgs w as)
  | .loop _ _ => false
def la (x : Int) : List Tr → Option Nat
  | [] => none
  | t :: r => match la x r with
    | some j => some (j + 1)
    | none => if t.asg x then some 0 else none
theorem la_append (x : Int) (ys : List Tr) : ∀ xs : List Tr, la x (xs ++ ys) = match la x ys with
    | some j => some (xs.length + j)
    | none => la x xs
  | [] => by
    show la x ys = _
    cases la x ys with
    | none => rfl
    | some j => show some j = some (0 + j); rw [Nat.zero_add]
  | t :: r => by
    show (match la x (r ++ ys) with | some j => some (j + 1) | none => if t.asg x then some 0 else none) = _
    rw [la_append x ys r]
    cases la x ys with
    | none => rfl
    | some j =>
      show some (r.length + j + 1) = some (r.length + 1 + j)
      congr 1
      omega
theorem la_flat (x : Int) (xs : List Tr) : ∀ n : Nat, la x (List.replicate n xs).flatten = match n, la x xs with
    | 0, _ => none
    | k + 1, some j => some (k * xs.length + j)
    | _ + 1, none => none
  | 0 => rfl
  | n + 1 => by
    rw [List.replicate_succ', List.flatten_append, List.flatten_cons, List.flatten_nil, List.append_nil, la_append]
    cases h : la x xs with
    | some j =>
      show some (((List.replicate n xs).flatten).length + j) = some (n * xs.length + j)
      rw [flat_len]
    | none =>
      show la x (List.replicate n xs).flatten = none
      rw [la_flat x xs n, h]
      cases n <;> rfl
/-- a prefix of a repeated list -/
theorem take_flat {α : Type} (xs : List α) (n k r : Nat) (hk : k < n) (hr : r ≤ xs.length) : ((List.replicate n xs).flatten).take (k * xs.length + r) = (List.replicate k xs).flatten ++ xs.take r := by
  obtain ⟨m, rfl⟩ : ∃ m, n = k + (m + 1) := ⟨n - k - 1, by omega⟩
  rw [← List.replicate_append_replicate, List.flatten_append, ← flat_len k xs, List.take_length_add_append, List.replicate_succ, List.flatten_cons, List.take_append_of_le_length hr]
theorem take_flat_all {α : Type} (xs : List α) (n : Nat) : ((List.replicate n xs).flatten).take (n * xs.length) = (List.replicate n xs).flatten := by
  rw [← flat_len n xs]
  exact List.take_length
/-- an optional number as a value -/
def optV : Option Nat → V
  | none => .non
  | some j => .int (j : Nat)
mutual
/-- each instruction but loops has arguments -/
def Tr.hasArgs : Tr → Prop
  | .op _ as => as ≠ []
  | .loop _ b => haveArgs b
def haveArgs : List Tr → Prop
  | [] => True
  | t :: r => t.hasArgs ∧ haveArgs r
end
theorem args_get : ∀ {b : List Tr} {i : Nat} {t : Tr}, haveArgs b → b[i]? = some t → t.hasArgs
  | [], _, _, _, e => by simp at e
  | t :: r, 0, u, h, e => by
    cases e
    rw [haveArgs] at h
    exact h.1
  | t :: r, i + 1, u, h, e => by
    rw [haveArgs] at h
    exact args_get (i := i) h.2 e
theorem GoodOp.args {p n : Int} {w : Str} {as : List Int} (h : GoodOp p n w as) : as ≠ [] := by
  rcases h with ⟨_, _, _, rfl, _⟩ | ⟨_, _, rfl, _⟩ | ⟨_, _, _, rfl, _⟩ | ⟨_, _, _, _, rfl, _⟩ <;> intro z <;> cases z
mutual
theorem Tr.made_args {G : Str → List Int → Prop} {R : Int → Prop} (hG : ∀ w as, G w as → as ≠ []) : ∀ (t : Tr) (l d : Nat), t.made G R l d → t.hasArgs
  | .op w as, l, d, h => by
    rw [Tr.made] at h
    rw [Tr.hasArgs]
    exact hG w as h
  | .loop k b, l, 0, h => by rw [Tr.made] at h; exact h.elim
  | .loop k b, l, d + 1, h => by
    rw [Tr.made] at h
    rw [Tr.hasArgs]
    exact mades_args hG b (l / 2) d h.2.2
theorem mades_args {G : Str → List Int → Prop} {R : Int → Prop} (hG : ∀ w as, G w as → as ≠ []) : ∀ (b : List Tr) (l d : Nat), mades G R b l d → haveArgs b
  | [], _, _, _ => by rw [haveArgs]; trivial
  | t :: r, l, d, h => by
    rw [mades] at h
    rw [haveArgs]
    exact ⟨Tr.made_args hG t l d h.1, mades_args hG r l d h.2⟩
end
theorem mades_drop {G : Str → List Int → Prop} {R : Int → Prop} : ∀ {b : List Tr} {l d : Nat}, mades G R b l d → mades G R (b.drop 1) l d
  | [], _, _, h => h
  | t :: r, l, d, h => by
    rw [mades] at h
    exact h.2
/-! ### slices of tuples -/
theorem cut_tail (x : V) (xs : List V) : cutV (x :: xs) (some 1) none = xs := by
  unfold cutV
  rw [show HT.sIx (x :: xs).length 0 (some 1) = min 1 (x :: xs).length from HT.sIx_nat _ _ 1, HT.sIx_none, List.length_cons, show min 1 (xs.length + 1) = 1 by omega]
  show (xs.take (xs.length + 1 - 1)) = xs
  rw [Nat.add_sub_cancel]
  exact List.take_length
theorem cut_tail_ne (x : V) (xs : List V) : ¬ (HT.sIx (x :: xs).length 0 (some 1) = 0 ∧ HT.sIx (x :: xs).length (x :: xs).length none = (x :: xs).length) := by
  rw [show HT.sIx (x :: xs).length 0 (some 1) = min 1 (x :: xs).length from HT.sIx_nat _ _ 1, List.length_cons, show min 1 (xs.length + 1) = 1 by omega]
  rintro ⟨h, _⟩
  cases h
theorem cut_one (x : V) (xs : List V) : cutV (x :: xs) (some 1) (some 2) = xs.take 1 := by
  unfold cutV
  rw [show HT.sIx (x :: xs).length 0 (some 1) = min 1 (x :: xs).length from HT.sIx_nat _ _ 1, show HT.sIx (x :: xs).length (x :: xs).length (some 2) = min 2 (x :: xs).length from HT.sIx_nat _ _ 2, List.length_cons, show min 1 (xs.length + 1) = 1 by omega]
  show xs.take (min 2 (xs.length + 1) - 1) = xs.take 1
  cases xs with
  | nil => rfl
  | cons y ys => rw [show min 2 ((y :: ys).length + 1) - 1 = 1 by rw [List.length_cons]; omega]
theorem cut_one_ne (x : V) (xs : List V) : ¬ (HT.sIx (x :: xs).length 0 (some 1) = 0 ∧ HT.sIx (x :: xs).length (x :: xs).length (some 2) = (x :: xs).length) := by
  rw [show HT.sIx (x :: xs).length 0 (some 1) = min 1 (x :: xs).length from HT.sIx_nat _ _ 1, List.length_cons, show min 1 (xs.length + 1) = 1 by omega]
  rintro ⟨h, _⟩
  cases h
theorem flat_ints (ns : List Int) : (ns.map V.int).all flatV = true := by
  induction ns with
  | nil => rfl
  | cons s r ih => exact ih
theorem inV_ints {z : Int} : ∀ {ss : List Int}, inV (.int z) (ss.map V.int) = decide (z ∈ ss)
  | [] => by
    show false = _
    rw [decide_eq_false (List.not_mem_nil)]
  | s :: r => by
    show (s == z || inV (.int z) (r.map V.int)) = _
    rw [inV_ints, Bool.eq_iff_iff, Bool.or_eq_true, decide_eq_true_iff, decide_eq_true_iff, List.mem_cons, beq_iff_eq]
    constructor
    · rintro (h | h)
      · exact .inl h.symm
      · exact .inr h
    · rintro (h | h)
      · exact .inl h.symm
      · exact .inr h
/-! ### promises -/
def spAsg (K : PySem.W.Frag) : Sp := fun vs H Q _ => ∃ (v : V) (w : Str) (as : List Int) (x : Int), vs = [v, .int x] ∧ TrAt K H (.op w as) v ∧ as ≠ [] ∧ ∀ H', Same H H' → Q (.bl (decide (x ∈ asgs w as))) H'
def spLA (K : PySem.W.Frag) (n : Nat) : Sp := fun vs H Q _ => ∃ (v : V) (b : List Tr) (m x : Int), vs = [v, .int m, .int x] ∧ BodyAt K H b v ∧ okB n b ∧ haveArgs b ∧ 0 ≤ m ∧ ∀ H', Same H H' → Q (optV (la x ((exs b).take m.toNat))) H'
def spLW (K : PySem.W.Frag) (n : Nat) : Sp := fun vs H Q _ => ∃ (v : V) (t : Tr) (m x : Int), vs = [v, .int m, .int x] ∧ TrAt K H t v ∧ okB (n + 1) [t] ∧ t.hasArgs ∧ 0 ≤ m ∧ m ≤ t.len ∧ ∀ H', Same H H' → Q (optV (la x (t.ex.take m.toNat))) H'
theorem la_one (x : Int) (w : Str) (as : List Int) : la x [.op w as] = if x ∈ asgs w as then some 0 else none := by
  show (if decide (x ∈ asgs w as) = true then some 0 else none) = _
  by_cases h : x ∈ asgs w as
  · rw [decide_eq_true h, if_pos h, if_pos rfl]
  · rw [decide_eq_false h, if_neg h, if_neg Bool.false_ne_true]
/-- within a loop -/
theorem la_loop (x : Int) (E : List Tr) (k m : Nat) (hE : 0 < E.length) (hm : m ≤ k * E.length) : la x (((List.replicate k E).flatten).take m) =
    match la x (E.take (m % E.length)) with
    | some j => some (m / E.length * E.length + j)
    | none => match m / E.length, la x E with
      | 0, _ => none
      | t + 1, some j => some (t * E.length + j)
      | _ + 1, none => none := by
  have hd := Nat.div_add_mod m E.length
  have hr := Nat.mod_lt m hE
  generalize m / E.length = t at hd
  generalize m % E.length = r at hd hr
  have e : ((List.replicate k E).flatten).take m = (List.replicate t E).flatten ++ E.take r := by
    rw [← hd, Nat.mul_comm]
    by_cases h : t < k
    · exact take_flat E k t r h (Nat.le_of_lt hr)
    · have h1 : k * E.length ≤ t * E.length := Nat.mul_le_mul_right _ (by omega)
      have h2 : t * E.length + r ≤ k * E.length := by rw [← hd, Nat.mul_comm] at hm; exact hm
      have h3 : r = 0 := by omega
      have h4 : t = k := by
        have := Nat.eq_of_mul_eq_mul_right hE (show t * E.length = k * E.length by omega)
        exact this
      subst h3 h4
      rw [Nat.add_zero, take_flat_all, List.take_zero, List.append_nil]
  rw [e, la_append]
  cases la x (E.take r) with
  | some j =>
    show some (((List.replicate t E).flatten).length + j) = _
    rw [flat_len]
  | none => exact la_flat x E t
end Lj
namespace Lj
open PySem PySem.Spec PyProof.Rows L2
theorem vals_snoc : ∀ {xs : List V} {us : List Value} {x : V} {u : Value}, Vals xs us → RelV x u → Vals (xs ++ [x]) (us ++ [u])
  | _, _, _, _, .nil, r => .cons r .nil
  | _, _, _, _, .cons a b, r => .cons a (vals_snoc b r)
theorem vals_rev : ∀ {xs : List V} {us : List Value}, Vals xs us → Vals xs.reverse us.reverse
  | _, _, .nil => .nil
  | _, _, .cons a b => by
    rw [List.reverse_cons, List.reverse_cons]
    exact vals_snoc (vals_rev b) a
end Lj
set_option Elab.async false
set_option linter.all false
set_option maxRecDepth 100000
namespace Lj
open PySem PySem.Spec PyProof.Rows L2
/-! ### trees shown -/
mutual
def Tr.datT : Tr → PyData
  | .op w as => .tuple (.str w :: as.map .int)
  | .loop k b => .tuple [.str "loop", .int k, .tuple (datTs b)]
def datTs : List Tr → List PyData
  | [] => []
  | t :: r => t.datT :: datTs r
end
mutual
theorem Tr.dp {K : PySem.W.Frag} {H : Hp} : ∀ (t : Tr) (v : V), TrAt K H t v → Dp K H v t.datT
  | .op w as, v, h => by
    rw [TrAt] at h
    obtain ⟨a, rfl, sq⟩ := h
    rw [Tr.datT]
    exact .tup sq (.cons (.str w) (dp_ints as))
  | .loop k b, v, h => by
    rw [TrAt] at h
    obtain ⟨a, c, vs, rfl, sq, sq2, r⟩ := h
    rw [Tr.datT]
    exact .tup sq (.cons (.str _) (.cons (.int k) (.cons (.tup sq2 (trs_dp b vs r)) .nil)))
theorem trs_dp {K : PySem.W.Frag} {H : Hp} : ∀ (b : List Tr) (vs : List V), TrsAt K H b vs → DpAll K H vs (datTs b)
  | [], vs, h => by
    rw [TrsAt] at h
    rw [h, datTs]
    exact .nil
  | t :: r, vs, h => by
    rw [TrsAt] at h
    obtain ⟨v, us, rfl, a, k⟩ := h
    rw [datTs]
    exact .cons (Tr.dp t v a) (trs_dp r us k)
end
def sb : Nat → Nat
  | 0 => 20000
  | d + 1 => 20000 + 8 * (sb d + 2)
theorem sb_ge : ∀ d, 20000 ≤ sb d
  | 0 => Nat.le_refl _
  | d + 1 => by rw [sb]; omega
/-- short arguments -/
def Short (w : Str) (as : List Int) : Prop := w ∈ W7 ∧ as.length ≤ 3 ∧ ∀ a ∈ as, a.natAbs < 2 ^ 1000
theorem W7_shown {w : Str} (h : w ∈ W7) : (PyData.shown (.str w)).length ≤ 20 := by
  have z : (W7.all fun w => decide ((PyData.shown (.str w)).length ≤ 20)) = true := by decide +kernel
  exact of_decide_eq_true (List.all_eq_true.mp z w h)
mutual
theorem Tr.made_show {G : Str → List Int → Prop} {R : Int → Prop} (hG : ∀ w as, G w as → Short w as) (hR : ∀ k, R k → k.natAbs < 2 ^ 1000) : ∀ (t : Tr) (l d : Nat), l ≤ 8 → t.made G R l d →
    t.datT.showable = true ∧ t.datT.hasDict = false ∧ t.datT.depth ≤ 2 * d + 1 ∧ t.datT.shown.length ≤ sb d
  | .op w as, l, d, hl, h => by
    rw [Tr.made] at h
    obtain ⟨h1, h2, h3⟩ := hG w as h
    obtain ⟨a1, a2, a3, a4, a5⟩ := leaf_all (leaf_ints h3)
    rw [Tr.datT]
    refine ⟨by rw [PyData.showable, PyData.showableAll, PyData.showable, a1]; rfl, by rw [PyData.hasDict, PyData.hasDictAll, PyData.hasDict, a2]; rfl, by rw [PyData.depth, PyData.depthAll, PyData.depth, a3]; exact Nat.succ_le_succ (Nat.zero_le _), ?_⟩
    rw [PyData.shown, PyData.shownAll]
    have z := PySem.tupleText_len_le (PyData.shown (.str w) :: PyData.shownAll (as.map PyData.int))
    rw [List.map_cons, List.sum_cons, List.length_cons, a5] at z
    have z2 := W7_shown h1
    have z3 := sb_ge d
    rw [List.length_map] at z a4
    omega
  | .loop k b, l, 0, _, h => by rw [Tr.made] at h; exact h.elim
  | .loop k b, l, d + 1, hl, h => by
    rw [Tr.made] at h
    obtain ⟨b1, b2, b3, b4, b5⟩ := mades_show hG hR b (l / 2) d (by omega) h.2.2
    obtain ⟨i1, i2, i3, i4⟩ := leaf_int (log_of (hR k h.1) (by decide) (by decide))
    have lp : (PyData.shown (.str "loop")).length ≤ 20 := by decide +kernel
    have y := PySem.tupleText_len_le (PyData.shownAll (datTs b))
    have hb := h.2.1
    rw [Tr.datT]
    refine ⟨by rw [PyData.showable, PyData.showableAll, PyData.showable, PyData.showableAll, i1, PyData.showableAll, PyData.showable, b1, PyData.showableAll]; rfl,
      by rw [PyData.hasDict, PyData.hasDictAll, PyData.hasDict, PyData.hasDictAll, i2, PyData.hasDictAll, PyData.hasDict, b2, PyData.hasDictAll]; rfl,
      by rw [PyData.depth, PyData.depthAll, PyData.depth, PyData.depthAll, i3, PyData.depthAll, PyData.depth, PyData.depthAll]; omega, ?_⟩
    rw [PyData.shown, PyData.shownAll, PyData.shownAll, PyData.shownAll, PyData.shownAll]
    have z := PySem.tupleText_len_le [PyData.shown (.str "loop"), PyData.shown (.int k), PyData.shown (.tuple (datTs b))]
    have ez : (PyData.shown (.tuple (datTs b))) = tupleText (PyData.shownAll (datTs b)) := by rw [PyData.shown]
    rw [List.map_cons, List.map_cons, List.map_cons, List.map_nil, List.sum_cons, List.sum_cons, List.sum_cons, List.sum_nil, ez] at z
    rw [show ([PyData.shown (.str "loop"), PyData.shown (.int k), tupleText (PyData.shownAll (datTs b))] : List Str).length = 3 from rfl] at z
    rw [ez, sb]
    have m1 : b.length * sb d ≤ 4 * sb d := Nat.mul_le_mul_right _ (by omega)
    have := sb_ge d
    omega
theorem mades_show {G : Str → List Int → Prop} {R : Int → Prop} (hG : ∀ w as, G w as → Short w as) (hR : ∀ k, R k → k.natAbs < 2 ^ 1000) : ∀ (b : List Tr) (l d : Nat), l ≤ 8 → mades G R b l d →
    PyData.showableAll (datTs b) = true ∧ PyData.hasDictAll (datTs b) = false ∧ PyData.depthAll (datTs b) ≤ 2 * d + 1 ∧ ((PyData.shownAll (datTs b)).map (·.length)).sum ≤ b.length * sb d ∧ (PyData.shownAll (datTs b)).length = b.length
  | [], l, d, _, _ => by
    rw [datTs]
    exact ⟨by rw [PyData.showableAll], by rw [PyData.hasDictAll], by rw [PyData.depthAll]; exact Nat.zero_le _, by rw [PyData.shownAll]; exact Nat.zero_le _, by rw [PyData.shownAll]; rfl⟩
  | t :: r, l, d, hl, h => by
    rw [mades] at h
    obtain ⟨a1, a2, a3, a4⟩ := Tr.made_show hG hR t l d hl h.1
    obtain ⟨b1, b2, b3, b4, b5⟩ := mades_show hG hR r l d hl h.2
    rw [datTs]
    refine ⟨by rw [PyData.showableAll, a1, b1]; rfl, by rw [PyData.hasDictAll, a2, b2]; rfl, by rw [PyData.depthAll]; omega, ?_, by rw [PyData.shownAll, List.length_cons, b5, List.length_cons]⟩
    rw [PyData.shownAll, List.map_cons, List.sum_cons, List.length_cons, Nat.succ_mul]
    omega
end
/-! ### reads among what is executed -/
def rc (E : List Tr) : Int := (((E.map Tr.word).count ("read" : Str) : Nat) : Int)
theorem rc_nil : rc [] = 0 := rfl
theorem rc_append (a b : List Tr) : rc (a ++ b) = rc a + rc b := by
  unfold rc
  rw [List.map_append, List.count_append, Int.natCast_add]
theorem rc_exs {b : List Tr} {n : Nat} (h : wfs b n) : rc (exs b) = cnts "read" b := exs_cnt "read" b n h
theorem rc_ex {t : Tr} {n : Nat} (h : t.wf n) : rc t.ex = t.cnt "read" := Tr.ex_cnt "read" t n h
theorem rc_flat (xs : List Tr) (n : Nat) : rc (List.replicate n xs).flatten = n * rc xs := by
  unfold rc
  rw [count_flat, Int.natCast_mul]
theorem rc_loop (E : List Tr) (k m : Nat) (hE : 0 < E.length) (hm : m < k * E.length) : rc (((List.replicate k E).flatten).take m) = ((m / E.length : Nat) : Int) * rc E + rc (E.take (m % E.length)) := by
  have hd := Nat.div_add_mod m E.length
  have hr := Nat.mod_lt m hE
  have ht : m / E.length < k := (Nat.div_lt_iff_lt_mul hE).mpr hm
  generalize m / E.length = t at hd ht
  generalize m % E.length = r at hd hr
  rw [← hd, Nat.mul_comm, take_flat E k t r ht (Nat.le_of_lt hr), rc_append, rc_flat]
theorem rc_nn (E : List Tr) : 0 ≤ rc E := Int.natCast_nonneg _
theorem rc_le (E : List Tr) : rc E ≤ E.length := by
  unfold rc
  have := List.count_le_length (a := ("read" : Str)) (l := E.map Tr.word)
  rw [List.length_map] at this
  omega
def spRB (K : PySem.W.Frag) (n : Nat) : Sp := fun vs H Q _ => ∃ (v : V) (b : List Tr) (m : Int), vs = [v, .int m] ∧ BodyAt K H b v ∧ okB n b ∧ 0 ≤ m ∧ ∀ H', Same H H' → Q (.int (rc ((exs b).take m.toNat))) H'
def spRW (K : PySem.W.Frag) (n : Nat) : Sp := fun vs H Q _ => ∃ (v : V) (t : Tr) (m : Int), vs = [v, .int m] ∧ TrAt K H t v ∧ okB (n + 1) [t] ∧ 0 ≤ m ∧ m < t.len ∧ ∀ H', Same H H' → Q (.int (rc (t.ex.take m.toNat))) H'
end Lj
set_option Elab.async false
set_option linter.all false
set_option maxRecDepth 100000
namespace Lj
open PySem PySem.Spec PyProof.Rows L2
theorem wfs_take {b : List Tr} {n i : Nat} (h : wfs b n) : wfs (b.take i) n := wfs_all fun t m => by
  obtain ⟨j, hj, e⟩ := List.mem_iff_getElem.mp (List.mem_of_mem_take m)
  exact wfs_get (i := j) h (by rw [List.getElem?_eq_getElem hj, e])
theorem flat_takeL {b : List Tr} {i : Nat} {t : Tr} (e : b[i]? = some t) : exs (b.take (i + 1)) = exs (b.take i) ++ t.ex := by
  rw [exs_map, exs_map, map_next e, List.flatten_append, List.flatten_cons, List.flatten_nil, List.append_nil]
theorem lens_nextL {b : List Tr} {i : Nat} {t : Tr} (e : b[i]? = some t) : lens (b.take (i + 1)) = lens (b.take i) + t.len := by rw [lens_map, lens_map, sum_next e]
theorem exs_split (b : List Tr) (i : Nat) : exs b = exs (b.take i) ++ exs (b.drop i) := by rw [exs_map, exs_map, exs_map, ← List.flatten_append, ← List.map_append, List.take_append_drop]
theorem lens_split (b : List Tr) (i : Nat) : lens b = lens (b.take i) + lens (b.drop i) := by rw [lens_map, lens_map, lens_map, ← List.sum_append, ← List.map_append, List.take_append_drop]
theorem wfs_drop {b : List Tr} {n i : Nat} (h : wfs b n) : wfs (b.drop i) n := wfs_all fun t m => by
  obtain ⟨j, hj, e⟩ := List.mem_iff_getElem.mp (List.mem_of_mem_drop m)
  exact wfs_get (i := j) h (by rw [List.getElem?_eq_getElem hj, e])
/-! ### paths -/
/-- ps leads into b to the instruction t, the step st of b is the step r of t -/
inductive PT : List Tr → List Int → Tr → Int → Int → Prop
  | here {b : List Tr} {i : Nat} {t : Tr} {r : Int} (e : b[i]? = some t) : PT b [(i : Int)] t r (lens (b.take i) + r)
  | into {b b' : List Tr} {i : Nat} {k turn r st : Int} {t : Tr} {ps : List Int} (e : b[i]? = some (.loop k b')) (h0 : 0 ≤ turn) (h1 : turn < k) (p : PT b' ps t r st) : PT b ((i : Int) :: turn :: ps) t r (lens (b.take i) + (turn * lens b' + st))
theorem PT.deeper {b : List Tr} {ps : List Int} {t : Tr} {r st : Int} (p : PT b ps t r st) : ∀ {k turn r' : Int} {b' : List Tr} {j : Nat} {t' : Tr}, t = .loop k b' → 0 ≤ turn → turn < k → b'[j]? = some t' → r = turn * lens b' + (lens (b'.take j) + r') → PT b (ps ++ [turn, (j : Int)]) t' r' st := by
  induction p with
  | here e =>
    intro k turn r' b' j t' et h0 h1 ej er
    subst et er
    exact .into e h0 h1 (.here ej)
  | into e h0 h1 p ih =>
    intro k turn r' b' j t' et g0 g1 ej er
    exact .into e h0 h1 (ih et g0 g1 ej er)
theorem get_flat {α : Type} (E : List α) (k t r : Nat) (ht : t < k) (hr : r < E.length) : ((List.replicate k E).flatten)[t * E.length + r]? = E[r]? := by
  have h1 := take_flat E k t (r + 1) ht hr
  have h2 : (((List.replicate k E).flatten).take (t * E.length + (r + 1)))[t * E.length + r]? = ((List.replicate t E).flatten ++ E.take (r + 1))[t * E.length + r]? := by rw [h1]
  rw [List.getElem?_take_of_lt (by omega), List.getElem?_append_right (by rw [flat_len]; omega), flat_len, Nat.add_sub_cancel_left, List.getElem?_take_of_lt (by omega)] at h2
  exact h2
theorem PT.step {b : List Tr} {ps : List Int} {t : Tr} {r st : Int} (p : PT b ps t r st) : ∀ {n : Nat}, wfs b n → 0 ≤ r → r < t.len → 0 ≤ st ∧ st < lens b ∧ (exs b)[st.toNat]? = t.ex[r.toNat]? := by
  induction p with
  | @here b i t r e =>
    intro n h r0 r1
    have el := exs_len (b.take i) n (wfs_take h)
    have tl := Tr.ex_len t n (wfs_get h e)
    have l0 := (lens_bd _ n (wfs_take (i := i) h)).1
    have l2 := lens_nextL e
    have l3 := lens_split b (i + 1)
    have l4 := (lens_bd _ n (wfs_drop (i := i + 1) h)).1
    refine ⟨by omega, by omega, ?_⟩
    rw [exs_split b (i + 1), flat_takeL e, List.append_assoc, List.getElem?_append_right (by omega), List.getElem?_append_left (by omega)]
    congr 1
    omega
  | @into b b' i k turn r st t ps e h0 h1 p ih =>
    intro n h r0 r1
    have wt := wfs_get h e
    cases n with
    | zero => rw [Tr.wf] at wt; exact wt.elim
    | succ n =>
      have wt2 := wt
      rw [Tr.wf] at wt
      obtain ⟨s0, s1, s2⟩ := ih wt.2.2.2 r0 r1
      have el := exs_len (b.take i) _ (wfs_take h)
      have eb := exs_len b' n wt.2.2.2
      have tl := Tr.ex_len (.loop k b') _ wt2
      have l0 := (lens_bd _ _ (wfs_take (i := i) h)).1
      have l2 := lens_nextL e
      have l3 := lens_split b (i + 1)
      have l4 := (lens_bd _ _ (wfs_drop (i := i + 1) h)).1
      rw [Tr.len] at l2 tl
      have m0 : 0 ≤ turn * lens b' := Int.mul_nonneg h0 (by omega)
      have m1 : turn * lens b' + lens b' ≤ k * lens b' := by
        have := Int.mul_le_mul_of_nonneg_right (show turn + 1 ≤ k by omega) (show 0 ≤ lens b' by omega)
        rw [Int.add_mul, Int.one_mul] at this
        exact this
      refine ⟨by omega, by omega, ?_⟩
      rw [exs_split b (i + 1), flat_takeL e, List.append_assoc, List.getElem?_append_right (by omega), List.getElem?_append_left (by omega), ← s2, Tr.ex]
      have ix : (lens (b.take i) + (turn * lens b' + st)).toNat - (exs (b.take i)).length = turn.toNat * (exs b').length + st.toNat := by
        have : ((turn.toNat * (exs b').length : Nat) : Int) = turn * lens b' := by
          rw [Int.natCast_mul, eb]
          congr 1
          omega
        omega
      rw [ix]
      exact get_flat (exs b') k.toNat turn.toNat st.toNat (by omega) (by omega)
/-! ### slices of bodies -/
theorem TrsAt.take {K : PySem.W.Frag} {H : Hp} : ∀ {b : List Tr} {vs : List V} (i : Nat), TrsAt K H b vs → TrsAt K H (b.take i) (vs.take i)
  | b, vs, 0, _ => TrsAt.nil
  | [], vs, i + 1, h => by
    rw [TrsAt] at h
    subst h
    exact TrsAt.nil
  | t :: r, vs, i + 1, h => by
    rw [TrsAt] at h
    obtain ⟨v, us, rfl, a, k⟩ := h
    rw [List.take_succ_cons, List.take_succ_cons, TrsAt]
    exact ⟨v, _, rfl, a, TrsAt.take i k⟩
theorem TrsAt.drop {K : PySem.W.Frag} {H : Hp} : ∀ {b : List Tr} {vs : List V} (i : Nat), TrsAt K H b vs → TrsAt K H (b.drop i) (vs.drop i)
  | b, vs, 0, h => h
  | [], vs, i + 1, h => by
    rw [TrsAt] at h
    subst h
    exact TrsAt.nil
  | t :: r, vs, i + 1, h => by
    rw [TrsAt] at h
    obtain ⟨v, us, rfl, a, k⟩ := h
    exact TrsAt.drop i k
theorem cut_to (xs : List V) (i : Nat) : cutV xs none (some (i : Int)) = xs.take i := by
  unfold cutV
  rw [HT.sIx_none, HT.sIx_nat, List.drop_zero, Nat.sub_zero]
  by_cases h : i ≤ xs.length
  · rw [Nat.min_eq_left h]
  · rw [Nat.min_eq_right (by omega), List.take_length, List.take_of_length_le (by omega)]
theorem cut_mid (xs : List V) (i : Nat) (h : i < xs.length) : cutV xs (some (i : Int)) (some ((i : Int) + 1)) = (xs.drop i).take 1 := by
  unfold cutV
  rw [HT.sIx_nat, show ((i : Int) + 1) = ((i + 1 : Nat) : Int) from rfl, HT.sIx_nat, Nat.min_eq_left (Nat.le_of_lt h), Nat.min_eq_left h]
  congr 1
  omega
theorem cut_whole (xs : List V) (lo hi : Option Int) (h : HT.sIx xs.length 0 lo = 0 ∧ HT.sIx xs.length xs.length hi = xs.length) : cutV xs lo hi = xs := by
  unfold cutV
  rw [h.1, h.2, List.drop_zero, Nat.sub_zero, List.take_length]
theorem body_cut {K : PySem.W.Frag} {H : Hp} {b c : List Tr} {a : Addr} {vs : List V} {lo hi : Option Int} {Q : V → Hp → Prop} (sq : SqT K H a vs) (tr : TrsAt K H b vs) (tc : TrsAt K H c (cutV vs lo hi)) (q : ∀ v' H', Same H H' → BodyAt K H' c v' → Q v' H') : rSlA K (.ref a) lo hi H Q := by
  refine ⟨a, vs, rfl, sq, fun h => ?_, fun _ p np => ?_⟩
  · rw [cut_whole vs lo hi h] at tc
    exact q _ H (Same.refl H) ⟨a, vs, rfl, sq, tc⟩
  · exact q _ _ (same_new np) ⟨p, _, rfl, SqT.of upd_same, TrsAt.kt (Kt.same (same_new np)) _ _ tc⟩
/-! ### whether a register is assigned at all -/
mutual
def Tr.nam (x : Int) : Tr → Bool
  | .op w as => decide (x ∈ asgs w as)
  | .loop k b => decide (0 < k) && nams x b
def nams (x : Int) : List Tr → Bool
  | [] => false
  | t :: r => t.nam x || nams x r
end
theorem la_none (x : Int) : ∀ {E : List Tr}, la x E = none ↔ ∀ t ∈ E, t.asg x = false
  | [] => by
    constructor
    · intro _ t m
      cases m
    · intro _
      rfl
  | t :: r => by
    have ih := la_none x (E := r)
    show (match la x r with | some j => some (j + 1) | none => if t.asg x = true then some 0 else none) = none ↔ _
    cases h : la x r with
    | some j =>
      constructor
      · intro z
        cases z
      · intro z
        have := ih.mpr fun u m => z u (List.mem_cons_of_mem _ m)
        rw [h] at this
        cases this
    | none =>
      have h2 := ih.mp h
      show (if t.asg x = true then some 0 else none) = none ↔ _
      by_cases g : t.asg x = true
      · rw [if_pos g]
        constructor
        · intro z
          cases z
        · intro z
          rw [z t List.mem_cons_self] at g
          cases g
      · rw [if_neg g]
        constructor
        · intro _ u m
          rcases List.mem_cons.mp m with rfl | m
          · exact Bool.eq_false_iff.mpr g
          · exact h2 u m
        · intro _
          rfl
mutual
theorem Tr.nam_iff (x : Int) : ∀ (t : Tr) (n : Nat), t.wf n → (t.nam x = false ↔ ∀ u ∈ t.ex, u.asg x = false)
  | .op w as, n, _ => by
    rw [Tr.nam, Tr.ex]
    constructor
    · intro h u m
      rw [List.mem_singleton.mp m]
      exact h
    · intro h
      exact h _ (List.mem_singleton.mpr rfl)
  | .loop k b, 0, h => by rw [Tr.wf] at h; exact h.elim
  | .loop k b, n + 1, h => by
    rw [Tr.wf] at h
    have ih := nams_iff x b n h.2.2.2
    rw [Tr.nam, Tr.ex]
    constructor
    · intro z u m
      obtain ⟨xs, m1, m2⟩ := List.mem_flatten.mp m
      obtain ⟨m3, m4⟩ := List.mem_replicate.mp m1
      rw [m4] at m2
      rw [decide_eq_true (show 0 < k by omega), Bool.true_and] at z
      exact ih.mp z u m2
    · intro z
      by_cases g : 0 < k
      · rw [decide_eq_true g, Bool.true_and]
        refine ih.mpr fun u m => z u (List.mem_flatten.mpr ⟨exs b, List.mem_replicate.mpr ⟨by omega, rfl⟩, m⟩)
      · rw [decide_eq_false g, Bool.false_and]
theorem nams_iff (x : Int) : ∀ (b : List Tr) (n : Nat), wfs b n → (nams x b = false ↔ ∀ u ∈ exs b, u.asg x = false)
  | [], n, _ => by
    rw [nams, exs]
    constructor
    · intro _ u m
      cases m
    · intro _
      rfl
  | t :: r, n, h => by
    rw [wfs] at h
    have h1 := Tr.nam_iff x t n h.1
    have h2 := nams_iff x r n h.2
    rw [nams, exs, Bool.or_eq_false_iff, h1, h2]
    constructor
    · rintro ⟨a, b⟩ u m
      rcases List.mem_append.mp m with m | m
      · exact a u m
      · exact b u m
    · intro z
      exact ⟨fun u m => z u (List.mem_append.mpr (.inl m)), fun u m => z u (List.mem_append.mpr (.inr m))⟩
end
theorem la_get (x : Int) : ∀ {E : List Tr} {j : Nat}, la x E = some j → ∃ t, E[j]? = some t ∧ t.asg x = true
  | [], j, h => by cases h
  | t :: r, j, h => by
    have h : (match la x r with | some j => some (j + 1) | none => if t.asg x = true then some 0 else none) = some j := h
    cases e : la x r with
    | some i =>
      rw [e] at h
      cases h
      obtain ⟨u, h1, h2⟩ := la_get x e
      exact ⟨u, h1, h2⟩
    | none =>
      rw [e] at h
      have h : (if t.asg x = true then some 0 else none) = some j := h
      by_cases g : t.asg x = true
      · rw [if_pos g] at h
        cases h
        exact ⟨t, rfl, g⟩
      · rw [if_neg g] at h
        cases h
theorem la_ltL (x : Int) {E : List Tr} {j : Nat} (h : la x E = some j) : j < E.length := by
  obtain ⟨t, h1, _⟩ := la_get x h
  exact (List.getElem?_eq_some_iff.mp h1).1
/-- just behind a step that assigns it, it is this step -/
theorem la_at (x : Int) {E : List Tr} {j : Nat} {t : Tr} (e : E[j]? = some t) (a : t.asg x = true) : la x (E.take (j + 1)) = some j := by
  rw [List.take_add_one, e, la_append]
  have : la x (some t).toList = some 0 := by
    show (if t.asg x = true then some 0 else none) = some 0
    rw [if_pos a]
  rw [this]
  have l := (List.getElem?_eq_some_iff.mp e).1
  show some ((E.take j).length + 0) = some j
  rw [List.length_take]
  congr 1
  omega
end Lj
namespace Lj
open PySem PySem.Spec PyProof.Rows L2
mutual
theorem Tr.args_in : ∀ (t : Tr) (n : Nat), t.wf n → t.hasArgs → ∀ u ∈ t.ex, u.hasArgs
  | .op w as, n, _, h => by
    rw [Tr.ex]
    intro u m
    rw [List.mem_singleton.mp m]
    exact h
  | .loop k b, 0, h, _ => by rw [Tr.wf] at h; exact h.elim
  | .loop k b, n + 1, h, a => by
    rw [Tr.wf] at h
    rw [Tr.hasArgs] at a
    rw [Tr.ex]
    intro u m
    obtain ⟨xs, m1, m2⟩ := List.mem_flatten.mp m
    rw [(List.mem_replicate.mp m1).2] at m2
    exact exs_args b n h.2.2.2 a u m2
theorem exs_args : ∀ (b : List Tr) (n : Nat), wfs b n → haveArgs b → ∀ u ∈ exs b, u.hasArgs
  | [], _, _, _ => by rw [exs]; intro u m; cases m
  | t :: r, n, h, a => by
    rw [wfs] at h
    rw [haveArgs] at a
    rw [exs]
    intro u m
    rcases List.mem_append.mp m with m | m
    · exact Tr.args_in t n h.1 a.1 u m
    · exact exs_args r n h.2 a.2 u m
end
theorem args_in {b : List Tr} {n j : Nat} {z : Str} {as : List Int} (a : haveArgs b) (h : wfs b n) (e : (exs b)[j]? = some (.op z as)) : as ≠ [] := by
  have := exs_args b n h a _ (List.mem_of_getElem? e)
  rw [Tr.hasArgs] at this
  exact this
end Lj
set_option Elab.async false
set_option linter.all false
set_option maxRecDepth 100000
set_option pp.maxSteps 500
set_option pp.deepTerms.threshold 8
set_option pp.deepTerms false
namespace Lj
open PySem PySem.Spec PyProof.Rows L2
/-! ### rows, and what a step does to them -/
def gt (r : List Int) (i : Int) : Int := r.getD i.toNat 0
def sv (r : List Int) (i v : Int) : List Int := r.set i.toNat v
theorem sv_len (r : List Int) (i v : Int) : (sv r i v).length = r.length := List.length_set
theorem at_gt {r : List Int} {i : Int} (h0 : 0 ≤ i) (h : i < (r.length : Int)) : atI (r.map V.int) i = some (.int (gt r i)) := by
  have hk : i.toNat < r.length := by omega
  have ek : i = ((i.toNat : Nat) : Int) := by omega
  have q : atI (r.map V.int) ((i.toNat : Nat) : Int) = some (.int (gt r i)) := atI_nat (by
    rw [List.getElem?_map, List.getElem?_eq_getElem hk]
    unfold gt
    rw [List.getD_eq_getElem?_getD, List.getElem?_eq_getElem hk]
    rfl)
  rw [← ek] at q
  exact q
theorem ix_sv {α : Type} {r : List α} {i : Int} (h0 : 0 ≤ i) (h : i < (r.length : Int)) : ixN r.length i = some i.toNat := by
  unfold ixN
  rw [if_pos h0, if_pos h]
theorem map_sv (r : List Int) (i v : Int) : (r.map V.int).set i.toNat (.int v) = (sv r i v).map V.int := by
  unfold sv
  rw [List.map_set]
def exRow (p : Int) (w : Str) (as r : List Int) : List Int := match as with
  | [x, c] => if w = "set" then sv r (x + 1) (c * gt r 0 % p) else if w = "scale" then sv r (x + 1) (c * gt r (x + 1) % p)
    else if w = "copy" then sv r (x + 1) (gt r (c + 1)) else if w = "swap" then sv (sv r (x + 1) (gt r (c + 1))) (c + 1) (gt r (x + 1)) else r
  | [x, y, c] => sv r (x + 1) ((gt r (x + 1) + c * gt r (y + 1)) % p)
  | _ => r
theorem ex_set (p x c : Int) (r : List Int) : exRow p "set" [x, c] r = sv r (x + 1) (c * gt r 0 % p) := by
  unfold exRow
  exact if_pos rfl
theorem ex_scale (p x c : Int) (r : List Int) : exRow p "scale" [x, c] r = sv r (x + 1) (c * gt r (x + 1) % p) := by
  unfold exRow
  exact (if_neg (by decide)).trans (if_pos rfl)
theorem ex_copy (p x c : Int) (r : List Int) : exRow p "copy" [x, c] r = sv r (x + 1) (gt r (c + 1)) := by
  unfold exRow
  exact (if_neg (by decide)).trans ((if_neg (by decide)).trans (if_pos rfl))
theorem ex_swap (p x c : Int) (r : List Int) : exRow p "swap" [x, c] r = sv (sv r (x + 1) (gt r (c + 1))) (c + 1) (gt r (x + 1)) := by
  unfold exRow
  exact (if_neg (by decide)).trans ((if_neg (by decide)).trans ((if_neg (by decide)).trans (if_pos rfl)))
theorem ex_add (p x y c : Int) (r : List Int) : exRow p "add" [x, y, c] r = sv r (x + 1) ((gt r (x + 1) + c * gt r (y + 1)) % p) := rfl
theorem ex_write (p x : Int) (r : List Int) : exRow p "write" [x] r = r := rfl
theorem ex_len {p n : Int} {w : Str} {as r : List Int} (g : GoodOp p n w as) : (exRow p w as r).length = r.length := by
  rcases g with ⟨rfl | rfl, x, c, rfl, _⟩ | ⟨rfl | rfl, x, rfl, _⟩ | ⟨rfl | rfl, x, y, rfl, _⟩ | ⟨rfl, x, y, c, rfl, _⟩
  · rw [ex_set, sv_len]
  · rw [ex_scale, sv_len]
  · rfl
  · rfl
  · rw [ex_copy, sv_len]
  · rw [ex_swap, sv_len, sv_len]
  · rw [ex_add, sv_len]
/-- a run on its way -/
structure RS where
  row : List Int
  tk : Nat
  wr : List Int
def stp (p : Int) (is : List Int) (s : RS) : Tr → RS
  | .op w as => if w = "read" then ⟨sv s.row (as.headD 0 + 1) (is.getD s.tk 0), s.tk + 1, s.wr⟩ else if w = "write" then ⟨s.row, s.tk, s.wr ++ [gt s.row (as.headD 0 + 1)]⟩ else ⟨exRow p w as s.row, s.tk, s.wr⟩
  | .loop _ _ => s
def rns (p : Int) (is : List Int) (s : RS) (E : List Tr) : RS := E.foldl (stp p is) s
def run0 (rs : List Int) : RS := ⟨1 :: rs, 0, []⟩
theorem rns_nil (p : Int) (is : List Int) (s : RS) : rns p is s [] = s := rfl
theorem rns_append (p : Int) (is : List Int) (s : RS) (E F : List Tr) : rns p is s (E ++ F) = rns p is (rns p is s E) F := List.foldl_append
theorem rns_next {p : Int} {is : List Int} {s : RS} {E : List Tr} {i : Nat} {t : Tr} (e : E[i]? = some t) : rns p is s (E.take (i + 1)) = stp p is (rns p is s (E.take i)) t := by
  rw [List.take_add_one, e, rns_append]
  rfl
theorem stp_read (p : Int) (is : List Int) (s : RS) (as : List Int) : stp p is s (.op "read" as) = ⟨sv s.row (as.headD 0 + 1) (is.getD s.tk 0), s.tk + 1, s.wr⟩ := by
  unfold stp
  exact if_pos rfl
theorem stp_write (p : Int) (is : List Int) (s : RS) (as : List Int) : stp p is s (.op "write" as) = ⟨s.row, s.tk, s.wr ++ [gt s.row (as.headD 0 + 1)]⟩ := by
  unfold stp
  exact (if_neg (by decide)).trans (if_pos rfl)
theorem stp_else {p : Int} {is : List Int} {s : RS} {w : Str} {as : List Int} (h1 : w ≠ "read") (h2 : w ≠ "write") : stp p is s (.op w as) = ⟨exRow p w as s.row, s.tk, s.wr⟩ := by
  unfold stp
  exact (if_neg h1).trans (if_neg h2)
/-- good steps, and no others -/
def Goods (p n : Int) (E : List Tr) : Prop := ∀ t ∈ E, ∃ w as, t = .op w as ∧ GoodOp p n w as
theorem stp_len {p n : Int} {is : List Int} {s : RS} {w : Str} {as : List Int} (g : GoodOp p n w as) : (stp p is s (.op w as)).row.length = s.row.length := by
  by_cases h1 : w = "read"
  · subst h1
    rw [stp_read]
    exact sv_len _ _ _
  · by_cases h2 : w = "write"
    · subst h2
      rw [stp_write]
    · rw [stp_else h1 h2]
      exact ex_len g
theorem rns_len {p n : Int} {is : List Int} : ∀ {E : List Tr} {s : RS}, Goods p n E → (rns p is s E).row.length = s.row.length
  | [], _, _ => rfl
  | t :: r, s, g => by
    obtain ⟨w, as, rfl, go⟩ := g t List.mem_cons_self
    show (rns p is (stp p is s (.op w as)) r).row.length = _
    rw [rns_len (fun u m => g u (List.mem_cons_of_mem _ m)), stp_len go]
theorem stp_tk {p : Int} {is : List Int} {s : RS} {w : Str} {as : List Int} : ((stp p is s (.op w as)).tk : Int) = s.tk + rc [.op w as] := by
  by_cases h1 : w = "read"
  · subst h1
    rw [stp_read]
    rfl
  · have e : rc [.op w as] = 0 := by
      show ((([w].count ("read" : Str) : Nat)) : Int) = 0
      rw [List.count_eq_zero_of_not_mem (fun m => h1 (List.mem_singleton.mp m).symm)]
      rfl
    rw [e]
    by_cases h2 : w = "write"
    · subst h2
      rw [stp_write]
      exact (Int.add_zero _).symm
    · rw [stp_else h1 h2]
      exact (Int.add_zero _).symm
theorem rns_tk {p n : Int} {is : List Int} : ∀ {E : List Tr} {s : RS}, Goods p n E → ((rns p is s E).tk : Int) = s.tk + rc E
  | [], s, _ => (Int.add_zero _).symm
  | t :: r, s, g => by
    obtain ⟨w, as, rfl, go⟩ := g t List.mem_cons_self
    show ((rns p is (stp p is s (.op w as)) r).tk : Int) = _
    rw [rns_tk (fun u m => g u (List.mem_cons_of_mem _ m)), stp_tk, Int.add_assoc, ← rc_append]
    rfl
def wc (E : List Tr) : Nat := (E.map Tr.word).count ("write" : Str)
theorem wc_le (E : List Tr) : wc E ≤ E.length := by
  unfold wc
  exact Nat.le_trans List.count_le_length (by rw [List.length_map]; exact Nat.le_refl _)
theorem stp_wr {p : Int} {is : List Int} {s : RS} {w : Str} {as : List Int} : (stp p is s (.op w as)).wr.length = s.wr.length + wc [.op w as] := by
  by_cases h1 : w = "read"
  · subst h1
    rw [stp_read]
    rfl
  · by_cases h2 : w = "write"
    · subst h2
      rw [stp_write]
      show (s.wr ++ [_]).length = _
      rw [List.length_append]
      rfl
    · rw [stp_else h1 h2]
      have e : wc [.op w as] = 0 := List.count_eq_zero_of_not_mem (fun m => h2 (List.mem_singleton.mp m).symm)
      rw [e]
      rfl
theorem rns_wr {p n : Int} {is : List Int} : ∀ {E : List Tr} {s : RS}, Goods p n E → (rns p is s E).wr.length = s.wr.length + wc E
  | [], s, _ => rfl
  | t :: r, s, g => by
    obtain ⟨w, as, rfl, go⟩ := g t List.mem_cons_self
    show (rns p is (stp p is s (.op w as)) r).wr.length = _
    rw [rns_wr (fun u m => g u (List.mem_cons_of_mem _ m)), stp_wr, Nat.add_assoc]
    unfold wc
    rw [← List.count_append]
    rfl
theorem Goods.take {p n : Int} {E : List Tr} (g : Goods p n E) (i : Nat) : Goods p n (E.take i) := fun t m => g t (List.mem_of_mem_take m)
theorem rc_take (E : List Tr) (i : Nat) : rc (E.take i) ≤ rc E := by
  have h := rc_append (E.take i) (E.drop i)
  rw [List.take_append_drop] at h
  have := rc_nn (E.drop i)
  omega
/-- field elements -/
def In (p : Int) (r : List Int) : Prop := ∀ x ∈ r, 0 ≤ x ∧ x < p
theorem in_gt {p : Int} {r : List Int} (h : In p r) (p0 : 0 < p) (i : Int) : 0 ≤ gt r i ∧ gt r i < p := by
  unfold gt
  rw [List.getD_eq_getElem?_getD]
  cases e : r[i.toNat]? with
  | none => exact ⟨by show (0 : Int) ≤ 0; omega, p0⟩
  | some x => exact h x (List.mem_of_getElem? e)
theorem in_sv {p : Int} {r : List Int} {i v : Int} (h : In p r) (h0 : 0 ≤ v) (h1 : v < p) : In p (sv r i v) := fun x m => by
  rcases List.mem_or_eq_of_mem_set m with m | rfl
  · exact h x m
  · exact ⟨h0, h1⟩
theorem in_mod {p : Int} (p0 : 0 < p) (x : Int) : 0 ≤ x % p ∧ x % p < p := ⟨Int.emod_nonneg _ (by omega), Int.emod_lt_of_pos _ p0⟩
theorem in_ex {p n : Int} {w : Str} {as r : List Int} (g : GoodOp p n w as) (p0 : 0 < p) (h : In p r) : In p (exRow p w as r) := by
  rcases g with ⟨rfl | rfl, x, c, rfl, _⟩ | ⟨rfl | rfl, x, rfl, _⟩ | ⟨rfl | rfl, x, y, rfl, _⟩ | ⟨rfl, x, y, c, rfl, _⟩
  · rw [ex_set]
    exact in_sv h (in_mod p0 _).1 (in_mod p0 _).2
  · rw [ex_scale]
    exact in_sv h (in_mod p0 _).1 (in_mod p0 _).2
  · exact h
  · exact h
  · rw [ex_copy]
    exact in_sv h (in_gt h p0 _).1 (in_gt h p0 _).2
  · rw [ex_swap]
    exact in_sv (in_sv h (in_gt h p0 _).1 (in_gt h p0 _).2) (in_gt h p0 _).1 (in_gt h p0 _).2
  · rw [ex_add]
    exact in_sv h (in_mod p0 _).1 (in_mod p0 _).2
theorem in_getD {p : Int} {is : List Int} (h : In p is) (p0 : 0 < p) (k : Nat) : 0 ≤ is.getD k 0 ∧ is.getD k 0 < p := by
  rw [List.getD_eq_getElem?_getD]
  cases e : is[k]? with
  | none => exact ⟨by show (0 : Int) ≤ 0; omega, p0⟩
  | some x => exact h x (List.mem_of_getElem? e)
theorem in_stp {p n : Int} {is : List Int} {s : RS} {w : Str} {as : List Int} (g : GoodOp p n w as) (p0 : 0 < p) (hi : In p is) (h : In p s.row ∧ In p s.wr) : In p (stp p is s (.op w as)).row ∧ In p (stp p is s (.op w as)).wr := by
  by_cases h1 : w = "read"
  · subst h1
    rw [stp_read]
    exact ⟨in_sv h.1 (in_getD hi p0 _).1 (in_getD hi p0 _).2, h.2⟩
  · by_cases h2 : w = "write"
    · subst h2
      rw [stp_write]
      refine ⟨h.1, fun x m => ?_⟩
      rcases List.mem_append.mp m with m | m
      · exact h.2 x m
      · rw [List.mem_singleton.mp m]
        exact in_gt h.1 p0 _
    · rw [stp_else h1 h2]
      exact ⟨in_ex g p0 h.1, h.2⟩
theorem in_rns {p n : Int} {is : List Int} (p0 : 0 < p) (hi : In p is) : ∀ {E : List Tr} {s : RS}, Goods p n E → In p s.row ∧ In p s.wr → In p (rns p is s E).row ∧ In p (rns p is s E).wr
  | [], _, _, h => h
  | t :: r, s, g, h => by
    obtain ⟨w, as, rfl, go⟩ := g t List.mem_cons_self
    exact in_rns (E := r) p0 hi (fun u m => g u (List.mem_cons_of_mem _ m)) (in_stp go p0 hi h)
/-! ### the promise of executed -/
def spEx (K : PySem.W.Frag) : Sp := fun vs H Q _ => ∃ (p n : Int) (w : Str) (as : List Int) (v : V) (l : Addr) (r : List Int), vs = [.int p, v, .ref l] ∧ TrAt K H (.op w as) v ∧ GoodOp p n w as ∧ w ≠ "read" ∧ 2 ≤ p ∧ p ≤ 10007 ∧ SqL K H l (r.map V.int) ∧ (r.length : Int) = n + 1 ∧
  ∀ H' m, Same H H' → H m = none → H' m = some (.lst ((exRow p w as r).map V.int)) → Q (.ref m) H'
/-! ### the runner: an object -/
def rf (p : Int) (l g : Addr) (t : Int) (wl : Addr) : List (Str × V) := [("p", .int p), ("row", .ref l), ("given", .ref g), ("taken", .int t), ("written", .ref wl)]
section
variable (p : Int) (l g : Addr) (t : Int) (wl : Addr)
theorem rf_p : (rf p l g t wl).lookup ("p" : Str) = some (.int p) := rfl
theorem rf_row : (rf p l g t wl).lookup ("row" : Str) = some (.ref l) := rfl
theorem rf_given : (rf p l g t wl).lookup ("given" : Str) = some (.ref g) := rfl
theorem rf_taken : (rf p l g t wl).lookup ("taken" : Str) = some (.int t) := rfl
theorem rf_written : (rf p l g t wl).lookup ("written" : Str) = some (.ref wl) := rfl
theorem rf_perform : (rf p l g t wl).lookup ("perform" : Str) = none := rfl
theorem rf_put_row (m : Addr) : putF "row" (.ref m) (rf p l g t wl) = rf p m g t wl := rfl
theorem rf_put_taken (u : Int) : putF "taken" (.int u) (rf p l g t wl) = rf p l g u wl := rfl
theorem rf_make : putF "written" (.ref wl) (putF "taken" (.int t) (putF "given" (.ref g) (putF "row" (.ref l) (putF "p" (.int p) [])))) = rf p l g t wl := rfl
end
def RunAt (C : Addr) (H0 H : Hp) (x : Addr) (p : Int) (g : Addr) (s : RS) : Prop :=
  Same H0 H ∧ H0 x = none ∧ ∃ dx l wl, H0 l = none ∧ H0 wl = none ∧ l ≠ wl ∧ H x = some (.ins C dx (rf p l g s.tk wl)) ∧ H l = some (.lst (s.row.map V.int)) ∧ H wl = some (.lst (s.wr.map V.int))
structure RTxt (K : PySem.W.Frag) (mg : Str → Option Value) (C : Addr) : Prop where
  cl : Cls K C
  nP : NoAttr K C "p"
  nR : NoAttr K C "row"
  nG : NoAttr K C "given"
  nT : NoAttr K C "taken"
  nW : NoAttr K C "written"
  mgC : mg "Runner" = some (.ref C)
def spRInit (K : PySem.W.Frag) (C : Addr) : Sp := fun vs H Q _ => ∃ (H0 : Hp) (x dx rg g : Addr) (p : Int) (rs : List Int), vs = [.ref x, .int p, .ref rg, .ref g] ∧ Same H0 H ∧ H0 x = none ∧ H x = some (.ins C dx []) ∧ SqT K H0 rg (rs.map V.int) ∧ rs.length ≤ 100 ∧
  ∀ H', RunAt C H0 H' x p g (run0 rs) → Q .non H'
def spPerf (K : PySem.W.Frag) (C : Addr) : Sp := fun vs H Q _ => ∃ (H0 : Hp) (x g : Addr) (p n : Int) (s : RS) (v : V) (w : Str) (as is : List Int), vs = [.ref x, v] ∧ RunAt C H0 H x p g s ∧ TrAt K H0 (.op w as) v ∧ SqT K H0 g (is.map V.int) ∧ GoodOp p n w as ∧ 2 ≤ p ∧ p ≤ 10007 ∧
  (s.row.length : Int) = n + 1 ∧ (w = "read" → s.tk < is.length) ∧ s.wr.length ≤ 100000 ∧ ∀ H', RunAt C H0 H' x p g (stp p is s (.op w as)) → Q .non H'
def spUnr (K : PySem.W.Frag) (d : Nat) : Sp := spExec K d
def spRun (K : PySem.W.Frag) (d : Nat) : Sp := fun vs H Q _ => ∃ (p n : Int) (v : V) (b : List Tr) (rg g : Addr) (rs is : List Int), vs = [.int p, v, .ref rg, .ref g] ∧ BodyAt K H b v ∧ okB d b ∧ fines b ∧ (exs b).length ≤ 20000 ∧ Goods p n (exs b) ∧ 2 ≤ p ∧ p ≤ 10007 ∧ n ≤ 8 ∧
  SqT K H rg (rs.map V.int) ∧ (rs.length : Int) = n ∧ SqT K H g (is.map V.int) ∧ rc (exs b) ≤ is.length ∧
  ∀ H' t t1 t2, Same H H' → H t = none → H' t = some (.tup [.ref t1, .ref t2]) → H' t1 = some (.tup ((rns p is (run0 rs) (exs b)).row.tail.map V.int)) → H' t2 = some (.tup ((rns p is (run0 rs) (exs b)).wr.map V.int)) → Q (.ref t) H'
/-- the heap without some places -/
def wo (B : List Addr) (H : Hp) : Hp := fun b => if b ∈ B then none else H b
theorem wo_on {B : List Addr} {H : Hp} : Same (wo B H) H := fun b o h => by
  unfold wo at h
  split at h
  · cases h
  · exact h
theorem wo_at {B : List Addr} {H : Hp} {b : Addr} {o : HO} (e : H b = some o) (n : b ∉ B) : wo B H b = some o := by
  unfold wo
  rw [if_neg n]
  exact e
theorem wo_no {B : List Addr} {H : Hp} {b : Addr} (n : b ∈ B) : wo B H b = none := by
  unfold wo
  rw [if_pos n]
theorem wo_kt {B : List Addr} {H : Hp} (h : ∀ b ∈ B, (∃ C dx fs, H b = some (.ins C dx fs)) ∨ ∃ xs, H b = some (.lst xs)) : Kt H (wo B H) := fun a xs r => by
  have n : a ∉ B := fun m => by
    rcases h a m with ⟨C, dx, fs, e⟩ | ⟨ys, e⟩
    · rcases r with r | ⟨o, r⟩ <;> rw [e] at r <;> cases r
    · rcases r with r | ⟨o, r⟩ <;> rw [e] at r <;> cases r
  rcases r with r | ⟨o, r⟩
  · exact .inl (wo_at r n)
  · exact .inr ⟨o, wo_at r n⟩
end Lj
set_option Elab.async false
set_option linter.all false
set_option maxRecDepth 100000
set_option pp.maxSteps 500
set_option pp.deepTerms.threshold 8
set_option pp.deepTerms false
namespace Lj
open PySem PySem.Spec PyProof.Rows L2
/-! ### how much is executed, loops of at most r rounds -/
def mostR (r : Nat) : Nat → Nat → Nat
  | 0, _ => 1
  | d + 1, l => max 1 (r * ((l / 2) * mostR r d (l / 2)))
mutual
theorem Tr.made_exR {r : Nat} {G : Str → List Int → Prop} {R : Int → Prop} (hR : ∀ k, R k → 0 ≤ k ∧ k ≤ (r : Int)) : ∀ (t : Tr) (l d : Nat), t.made G R l d → t.ex.length ≤ mostR r d l
  | .op w as, l, 0, h => by rw [Tr.ex, mostR]; exact Nat.le_refl 1
  | .op w as, l, d + 1, h => by rw [Tr.ex, mostR]; exact Nat.le_max_left _ _
  | .loop k b, l, 0, h => by
    rw [Tr.made] at h
    exact h.elim
  | .loop k b, l, d + 1, h => by
    rw [Tr.made] at h
    have ih := mades_exR hR b (l / 2) d h.2.2
    have hk := hR k h.1
    rw [Tr.ex, mostR, List.length_flatten, List.map_replicate, List.sum_replicate_nat]
    refine Nat.le_trans ?_ (Nat.le_max_right _ _)
    have h1 : (exs b).length ≤ l / 2 * mostR r d (l / 2) := Nat.le_trans ih (Nat.mul_le_mul_right _ h.2.1)
    exact Nat.mul_le_mul (by omega) h1
theorem mades_exR {r : Nat} {G : Str → List Int → Prop} {R : Int → Prop} (hR : ∀ k, R k → 0 ≤ k ∧ k ≤ (r : Int)) : ∀ (b : List Tr) (l d : Nat), mades G R b l d → (exs b).length ≤ b.length * mostR r d l
  | [], _, _, _ => by rw [exs]; exact Nat.zero_le _
  | t :: q, l, d, h => by
    rw [mades] at h
    have h1 := Tr.made_exR hR t l d h.1
    have h2 := mades_exR hR q l d h.2
    rw [exs, List.length_append, List.length_cons, Nat.succ_mul]
    omega
end
theorem mostR0 (r : Nat) : ∀ d, mostR r d 0 = 1
  | 0 => rfl
  | d + 1 => by
    rw [mostR]
    show max 1 (r * (0 * _)) = 1
    rw [Nat.zero_mul, Nat.mul_zero]
    rfl
mutual
theorem Tr.made_fineR {r : Nat} {G : Str → List Int → Prop} {R : Int → Prop} (r1 : 1 ≤ r) (hG : ∀ w as, G w as → w ∈ W7) (hR : ∀ k, R k → 0 ≤ k ∧ k ≤ (r : Int)) : ∀ (t : Tr) (l d : Nat), max 1 l * mostR r d l ≤ 100000 → t.made G R l d → t.fine
  | .op w as, l, d, _, h => by
    rw [Tr.made] at h
    rw [Tr.fine]
    exact hG w as h
  | .loop k b, l, 0, _, h => by rw [Tr.made] at h; exact h.elim
  | .loop k b, l, d + 1, hb, h => by
    rw [Tr.made] at h
    rw [Tr.fine]
    have h1 : l / 2 * mostR r d (l / 2) ≤ 100000 := by
      have h0 : mostR r (d + 1) l ≤ 100000 := Nat.le_trans (Nat.le_mul_of_pos_left _ (by omega)) hb
      rw [mostR] at h0
      exact Nat.le_trans (Nat.le_mul_of_pos_left _ r1) (Nat.le_trans (Nat.le_max_right _ _) h0)
    have h2 := mades_exR hR b (l / 2) d h.2.2
    have h3 : b.length * mostR r d (l / 2) ≤ l / 2 * mostR r d (l / 2) := Nat.mul_le_mul_right _ h.2.1
    refine ⟨by omega, mades_fineR r1 hG hR b (l / 2) d ?_ h.2.2⟩
    by_cases z : l / 2 = 0
    · rw [z, mostR0]
      decide
    · rw [show max 1 (l / 2) = l / 2 by omega]
      omega
theorem mades_fineR {r : Nat} {G : Str → List Int → Prop} {R : Int → Prop} (r1 : 1 ≤ r) (hG : ∀ w as, G w as → w ∈ W7) (hR : ∀ k, R k → 0 ≤ k ∧ k ≤ (r : Int)) : ∀ (b : List Tr) (l d : Nat), max 1 l * mostR r d l ≤ 100000 → mades G R b l d → fines b
  | [], _, _, _, _ => by rw [fines]; trivial
  | t :: q, l, d, hl, h => by
    rw [mades] at h
    rw [fines]
    exact ⟨Tr.made_fineR r1 hG hR t l d hl h.1, mades_fineR r1 hG hR q l d hl h.2⟩
end
mutual
theorem Tr.made_ops {G : Str → List Int → Prop} {R : Int → Prop} : ∀ (t : Tr) (l d : Nat), t.made G R l d → ∀ x ∈ t.ex, ∃ z as, x = .op z as ∧ G z as
  | .op w as, l, d, h => by
    rw [Tr.made] at h
    rw [Tr.ex]
    intro t m
    exact ⟨w, as, List.mem_singleton.mp m, h⟩
  | .loop k b, l, 0, h => by rw [Tr.made] at h; exact h.elim
  | .loop k b, l, d + 1, h => by
    rw [Tr.made] at h
    rw [Tr.ex]
    intro t m
    obtain ⟨xs, m1, m2⟩ := List.mem_flatten.mp m
    rw [(List.mem_replicate.mp m1).2] at m2
    exact mades_ops b (l / 2) d h.2.2 t m2
theorem mades_ops {G : Str → List Int → Prop} {R : Int → Prop} : ∀ (b : List Tr) (l d : Nat), mades G R b l d → ∀ x ∈ exs b, ∃ z as, x = .op z as ∧ G z as
  | [], _, _, _ => by rw [exs]; intro t m; cases m
  | t :: r, l, d, h => by
    rw [mades] at h
    rw [exs]
    intro u m
    rcases List.mem_append.mp m with m | m
    · exact Tr.made_ops t l d h.1 u m
    · exact mades_ops r l d h.2 u m
end
/-- what a run returns -/
def res (p : Int) (E : List Tr) (h : List Int × List Int) : List Int × List Int := ((rns p h.2 (run0 h.1) E).row.tail, (rns p h.2 (run0 h.1) E).wr)
theorem res_len {p n : Int} {E : List Tr} {h : List Int × List Int} (g : Goods p n E) : (res p E h).1.length = h.1.length ∧ (res p E h).2.length = wc E := by
  refine ⟨?_, ?_⟩
  · show ((rns p h.2 (run0 h.1) E).row.tail).length = _
    rw [List.length_tail, rns_len g]
    show (1 :: h.1).length - 1 = _
    rw [List.length_cons, Nat.add_sub_cancel]
  · show (rns p h.2 (run0 h.1) E).wr.length = _
    rw [rns_wr g]
    exact Nat.zero_add _
theorem res_in {p n : Int} {E : List Tr} {h : List Int × List Int} (g : Goods p n E) (p0 : 2 ≤ p) (i1 : In p h.1) (i2 : In p h.2) : In p (res p E h).1 ∧ In p (res p E h).2 := by
  have z := in_rns (s := run0 h.1) (by omega : 0 < p) i2 g ⟨fun x m => by
    rcases List.mem_cons.mp m with rfl | m
    · exact ⟨by decide, by omega⟩
    · exact i1 x m, fun x m => absurd m List.not_mem_nil⟩
  exact ⟨fun x m => z.1 x (List.mem_of_mem_tail m), z.2⟩
/-! ### a history, or a result, in the heap: a pair of tuples -/
def HistAt (K : PySem.W.Frag) (H : Hp) (v : V) (h : List Int × List Int) : Prop := ∃ T t1 t2, v = .ref T ∧ SqT K H T [.ref t1, .ref t2] ∧ SqT K H t1 (h.1.map V.int) ∧ SqT K H t2 (h.2.map V.int)
theorem HistAt.kt {K : PySem.W.Frag} {H H' : Hp} {v : V} {h : List Int × List Int} (k : Kt H H') (x : HistAt K H v h) : HistAt K H' v h := by
  obtain ⟨T, t1, t2, e, a, b, c⟩ := x
  exact ⟨T, t1, t2, e, k.sq a, k.sq b, k.sq c⟩
def HistsAt (K : PySem.W.Frag) (H : Hp) : List V → List (List Int × List Int) → Prop
  | [], [] => True
  | v :: vs, h :: hs => HistAt K H v h ∧ HistsAt K H vs hs
  | _, _ => False
theorem HistsAt.kt {K : PySem.W.Frag} {H H' : Hp} (k : Kt H H') : ∀ {vs : List V} {hs : List (List Int × List Int)}, HistsAt K H vs hs → HistsAt K H' vs hs
  | [], [], _ => trivial
  | v :: vs, h :: hs, ⟨a, b⟩ => ⟨a.kt k, HistsAt.kt k b⟩
  | [], _ :: _, x => x.elim
  | _ :: _, [], x => x.elim
theorem HistsAt.snoc {K : PySem.W.Frag} {H : Hp} {v : V} {h : List Int × List Int} (a : HistAt K H v h) : ∀ {vs : List V} {hs : List (List Int × List Int)}, HistsAt K H vs hs → HistsAt K H (vs ++ [v]) (hs ++ [h])
  | [], [], _ => ⟨a, trivial⟩
  | _ :: _, _ :: _, ⟨x, y⟩ => ⟨x, HistsAt.snoc a y⟩
  | [], _ :: _, x => x.elim
  | _ :: _, [], x => x.elim
theorem HistsAt.get {K : PySem.W.Frag} {H : Hp} : ∀ {vs : List V} {hs : List (List Int × List Int)} {i : Nat} {v : V}, HistsAt K H vs hs → vs[i]? = some v → ∃ h, hs[i]? = some h ∧ HistAt K H v h
  | [], [], _, _, _, e => by simp at e
  | v :: vs, h :: hs, 0, _, ⟨a, _⟩, e => by
    cases e
    exact ⟨h, rfl, a⟩
  | v :: vs, h :: hs, i + 1, _, ⟨_, b⟩, e => HistsAt.get (i := i) b e
  | [], _ :: _, _, _, x, _ => x.elim
  | _ :: _, [], _, _, x, _ => x.elim
theorem HistsAt.length {K : PySem.W.Frag} {H : Hp} : ∀ {vs : List V} {hs : List (List Int × List Int)}, HistsAt K H vs hs → vs.length = hs.length
  | [], [], _ => rfl
  | _ :: _, _ :: _, ⟨_, b⟩ => by rw [List.length_cons, List.length_cons, HistsAt.length b]
  | [], _ :: _, x => x.elim
  | _ :: _, [], x => x.elim
def pairD (h : List Int × List Int) : PyData := .tuple [.tuple (h.1.map PyData.int), .tuple (h.2.map PyData.int)]
theorem HistAt.dp {K : PySem.W.Frag} {H : Hp} {v : V} {h : List Int × List Int} (x : HistAt K H v h) : Dp K H v (pairD h) := by
  obtain ⟨T, t1, t2, rfl, a, b, c⟩ := x
  exact .tup a (.cons (.tup b (dp_ints _)) (.cons (.tup c (dp_ints _)) .nil))
theorem leafs_tup {ns : List Int} (h : ∀ n ∈ ns, n.natAbs < 2 ^ 1000) : (PyData.tuple (ns.map PyData.int)).showable = true ∧ (PyData.tuple (ns.map PyData.int)).hasDict = false ∧ (PyData.tuple (ns.map PyData.int)).depth = 1 ∧ (PyData.tuple (ns.map PyData.int)).shown.length ≤ 1930 * ns.length + 100 := by
  obtain ⟨b1, b2, b3, b4, b5⟩ := leaf_all (leaf_ints h)
  refine ⟨by rw [PyData.showable]; exact b1, by rw [PyData.hasDict]; exact b2, by rw [PyData.depth, b3], ?_⟩
  rw [PyData.shown]
  have := PySem.tupleText_len_le (PyData.shownAll (ns.map PyData.int))
  rw [List.length_map] at b4 b5
  omega
theorem hpair_show {h : List Int × List Int} (h1 : ∀ n ∈ h.1, n.natAbs < 2 ^ 1000) (h2 : ∀ n ∈ h.2, n.natAbs < 2 ^ 1000) (l1 : h.1.length ≤ 2000) (l2 : h.2.length ≤ 2000) : (pairD h).showable = true ∧ (pairD h).hasDict = false ∧ (pairD h).depth ≤ 64 ∧ (pairD h).shown.length ≤ sizeLine := by
  obtain ⟨a1, a2, a3, a4⟩ := leafs_tup h1
  obtain ⟨b1, b2, b3, b4⟩ := leafs_tup h2
  unfold pairD
  refine ⟨by rw [PyData.showable, PyData.showableAll, PyData.showableAll, PyData.showableAll, a1, b1]; rfl, by rw [PyData.hasDict, PyData.hasDictAll, PyData.hasDictAll, PyData.hasDictAll, a2, b2]; rfl, by rw [PyData.depth, PyData.depthAll, PyData.depthAll, PyData.depthAll, a3, b3]; decide, ?_⟩
  rw [PyData.shown, PyData.shownAll, PyData.shownAll, PyData.shownAll, sizeLine_eq]
  have z := PySem.tupleText_len_le [PyData.shown (.tuple (h.1.map PyData.int)), PyData.shown (.tuple (h.2.map PyData.int))]
  rw [List.map_cons, List.map_cons, List.map_nil, List.sum_cons, List.sum_cons, List.sum_nil] at z
  rw [show ([PyData.shown (.tuple (h.1.map PyData.int)), PyData.shown (.tuple (h.2.map PyData.int))] : List Str).length = 2 from rfl] at z
  omega
theorem in_small {p : Int} {ns : List Int} (h : In p ns) (p1 : p ≤ 10007) : ∀ n ∈ ns, n.natAbs < 2 ^ 1000 := fun n m => by
  have := h n m
  have : (10007 : Nat) < 2 ^ 1000 := by decide +kernel
  omega
def spTupU (K : PySem.W.Frag) : Sp := fun vs H Q _ => ∃ (u : Addr) (q : Int) (n : Nat), vs = [.ref u, .int q, .int (n : Int)] ∧ Urn H u ∧ 2 ≤ q ∧ q ≤ 10007 ∧ n ≤ 1000 ∧
  ∀ ns H' t, ns.length = n → In q ns → SqT K H' t (ns.map V.int) → Urn H' u → But u H H' → Q (.ref t) H'
end Lj
set_option Elab.async false
set_option linter.all false
set_option maxRecDepth 100000
set_option maxHeartbeats 2000000
/-! # errors of the program's own: __init__ says super().__init__(text), then stores one attribute -/
namespace Lj
open PySem PySem.W PySem.Calls PyProof.Rows PySem.HandSPX
/-! ### the text of __init__ -/
def eA (f : Str) (p1 p2 : Pos) : Arguments := { posonlyargs := [], args := [{ arg := "self", annotation := none, pos := p1 }, { arg := f, annotation := none, pos := p2 }], vararg := none, kwonlyargs := [], kw_defaults := [], kwarg := none, defaults := [] }
def eB (f m : Str) (p1 p2 p3 p4 p5 p6 q1 q2 q3 q4 : Pos) : List Stmt :=
  [.Expr (.Call (.Attribute (.Call (.Name "super" p1) [] [] p2) "__init__" p3) [.Constant (.str m) 0 p4] [] p5) p6, .Assign [.Attribute (.Name "self" q1) f q2] (.Name f q3) q4]
def eS (f : Str) : Scope := { kind := .function, names := [(PySem.Str.ofString "self", .local), (f, .local), (PySem.Str.ofString "__class__", .free), (PySem.Str.ofString "super", .globalImplicit)], isGenerator := false, isCoroutine := false, more := [] }
/-- a name that is none of the others in __init__ -/
structure Nm (f : Str) : Prop where
  s : (f == ("self" : Str)) = false
  c : (f == ("__class__" : Str)) = false
  u : (f == ("super" : Str)) = false
  d : (f == ("__debug__" : Str)) = false
  bd : ∀ (qual : Str) (p1 p2 : Pos) (b : List Stmt) (doc pm : Value) (an : Option Addr) (cdv ct : Value) (cc : Addr) (u v : Value), bindArgs (ksFn "__init__" qual (eA f p1 p2) b (eS f) .none .none doc pm an cdv ct cc) ⟨[u, v], []⟩ = pure [(("self" : Str), u), (f, v)]
theorem ev_super (qual m : Str) (sc : Scope) (L a cc : Addr) (cd : Value) (p3 p4 p5 p6 p7 : Pos) (h : (p5.endLine == p7.line) = true) : ∃ pl : Sem Bool, eval (.Call (.Attribute (.Call (.Name "super" p3) [] [] p4) "__init__" p5) [.Constant (.str m) 0 p6] [] p7) (ksEnv qual sc L a cd cc) = (do
      let ov ← attributeBase (.Call (.Name "super" p3) [] [] p4) "__init__" (ksEnv qual sc L a cd cc) (eval (.Call (.Name "super" p3) [] [] p4) (ksEnv qual sc L a cd cc))
      standAt p5.atName
      let (g, first) ← holding [ov] (getMethod ov "__init__" pl)
      callWith p7 g first (backTo p7 (starEach [.Constant (.str m) 0 p6] (ksEnv qual sc L a cd cc))) []) := by
  refine ⟨(do return (← importBound (.Call (.Name "super" p3) [] [] p4) (ksEnv qual sc L a cd cc)).getD true), ?_⟩
  show (do
    let ov ← attributeBase (.Call (.Name "super" p3) [] [] p4) "__init__" (ksEnv qual sc L a cd cc) (eval (.Call (.Name "super" p3) [] [] p4) (ksEnv qual sc L a cd cc))
    standAt p5.atName
    methodCall (.Call (.Name "super" p3) [] [] p4) "__init__" p5 p7 (ksEnv qual sc L a cd cc) ov 1 (backTo p7 (starEach [.Constant (.str m) 0 p6] (ksEnv qual sc L a cd cc))) (backToKw p7 (keywordEach [] (ksEnv qual sc L a cd cc)))) = _
  congr 1; funext ov; congr 1; funext u
  unfold methodCall methodCallPos
  simp only [h, Bool.or_true, if_true, pure_bind]
  rfl
theorem nm_value : Nm "value" := ⟨by decide +kernel, by decide +kernel, by decide +kernel, by decide +kernel, fun _ _ _ _ _ _ _ _ _ _ _ _ => rfl⟩
theorem nm_moment : Nm "moment" := ⟨by decide +kernel, by decide +kernel, by decide +kernel, by decide +kernel, fun _ _ _ _ _ _ _ _ _ _ _ _ => rfl⟩
theorem nm_x : Nm "x" := ⟨by decide +kernel, by decide +kernel, by decide +kernel, by decide +kernel, fun _ _ _ _ _ _ _ _ _ _ _ _ => rfl⟩
theorem nm_state : Nm "state" := ⟨by decide +kernel, by decide +kernel, by decide +kernel, by decide +kernel, fun _ _ _ _ _ _ _ _ _ _ _ _ => rfl⟩
theorem nm_line : Nm "line" := ⟨by decide +kernel, by decide +kernel, by decide +kernel, by decide +kernel, fun _ _ _ _ _ _ _ _ _ _ _ _ => rfl⟩
theorem nm_command : Nm "command" := ⟨by decide +kernel, by decide +kernel, by decide +kernel, by decide +kernel, fun _ _ _ _ _ _ _ _ _ _ _ _ => rfl⟩
theorem nm_size : Nm "size" := ⟨by decide +kernel, by decide +kernel, by decide +kernel, by decide +kernel, fun _ _ _ _ _ _ _ _ _ _ _ _ => rfl⟩
theorem nm_depth : Nm "depth" := ⟨by decide +kernel, by decide +kernel, by decide +kernel, by decide +kernel, fun _ _ _ _ _ _ _ _ _ _ _ _ => rfl⟩
/-- what the written part says of the error x, at C, and of its __init__, at fI -/
structure ErrTxt (P : Program) (K : Frag) (mg : Str → Option Value) (x f : Str) (C fI : Addr) : Prop where
  nm : Nm f
  gC : mg x = some (.ref C)
  cls : ∃ nm q N bs bm sn sub ab col dd k0 k1 k2 k3 k5, K.lookup C = some (excClassObj nm q C N bs bm true sn sub ab col dd k0 k1 k2 k3 k5 "ValueError.__new__") ∧ refsVE bm = true
  sa : findIn K (.ref C) "__setattr__" = some (some (.builtin "object.__setattr__"))
  ga : findIn K (.ref C) "__getattribute__" = some (some (.builtin "BaseException.__getattribute__"))
  gg : findIn K (.ref C) "__getattr__" = some none
  noN : findIn K (.ref C) f = some none
  iC : findIn K (.ref C) "__init__" = some (some (.ref fI))
  tC : typeIn K (.ref fI) = some (.type "function")
  kC : keepIn K (.ref C) = true
  exC : subIn K (.ref C) (.type "BaseException") = some true
  veC : subIn K (.ref C) (.type "ValueError") = some true
  tyC : typeIn K (.ref C) = some (.type "type")
  hdC : hasDictIn K C = true
  mrC : mroIn K C (.ref C) = some true
  suC : ks_superIn K C C "__init__" = some (some (.builtin "ValueError.__init__"))
  op : nsIn K cStatics "thirdparty.any" = some none
  gS : mg "super" = none
  top : (P.main.scope.names.lookup ("super" : Str)).isSome = false
  fn : ∃ (oc : Value) (od : Option Addr) (qual m : Str) (doc pm : Value) (an : Option Addr) (cda cc : Addr) (ct : Value) (osl : Array (Option Value)) (p1 p2 p3 p4 p5 p6 p7 p8 q1 q2 q3 q4 : Pos)
    (ccl : Value) (cdd : Option Addr) (vs : Array Value) (ccs : Array (Option Value)) (file : Str) (tf : Tok) (cl : Value) (cld : Option Addr) (csl : Array (Option Value)),
    K.lookup fI = some ⟨oc, od, .func (ksFn "__init__" qual (eA f p1 p2) (eB f m p3 p4 p5 p6 p7 p8 q1 q2 q3 q4) (eS f) .none .none doc pm an (.ref cda) ct cc), osl⟩ ∧ codeIn K (.ref cda) qual = true ∧
      K.lookup cda = some ⟨ccl, cdd, .fields vs, ccs⟩ ∧ vs[2]? = some (.str file tf) ∧ ((P.main.file : Str) == file) = true ∧ (p5.endLine == p7.line) = true ∧ K.lookup cc = some ⟨cl, cld, .cell (some (.ref C)), csl⟩
theorem one_size (v : Value) : [v].length ≤ sizeLine := by
  rw [sizeLine_eq]
  exact (by decide : 1 ≤ 16777216)
/-- what __init__ leaves of a fresh exception at x -/
structure InitEnd (f : Str) (h h' : Heap) (x C dx : Addr) (v : Value) : Prop where
  keep : ∀ b o, b ≠ x → h.get? b = some o → h'.get? b = some o
  obj : ∃ t1 : Addr, h'.get? x = some { cls := .ref C, dict := some dx, data := .fields #[.ref t1, .none, .none, .none, .bool false, .none] }
  dbig : h.objs.size ≤ dx
  dne : dx ≠ x
  ns : h'.Ns1 dx (fun y => if y = f then some v else none)
/-- a made error -/
structure OwnMade (f : Str) (h h' : Heap) (e C d : Addr) (v : Value) : Prop where
  keep : ∀ b o, h.get? b = some o → h'.get? b = some o
  new : h.objs.size ≤ e
  obj : ∃ oe vs, h'.get? e = some oe ∧ oe.cls = .ref C ∧ oe.dict = some d ∧ oe.data = .fields vs ∧ vs[1]? = some .none
  dbig : h.objs.size ≤ d
  dne : d ≠ e
  ns : h'.Ns1 d (fun y => if y = f then some v else none)
section
variable {prog : Program} {w : World} {A : Around} {E : Value → Shared → Prop} {R : Result → Shared → Prop} {s : Shared} {K : Frag} {mg mb : Str → Option Value} {x f : Str} {C fI : Addr}
theorem lk_self {f : Str} : (eS f).names.lookup ("self" : Str) = some .local := rfl
theorem lk_f (n : Nm f) : (eS f).names.lookup f = some .local := by
  have h := n.s
  show List.lookup f [(PySem.Str.ofString "self", NameKind.local), (f, .local), (PySem.Str.ofString "__class__", .free), (PySem.Str.ofString "super", .globalImplicit)] = _
  rw [List.lookup_cons]
  have h2 : (f == PySem.Str.ofString "self") = false := h
  rw [h2, List.lookup_cons, beq_self_eq_true]
theorem flip {a b : Str} (h : (a == b) = false) : (b == a) = false := by
  cases e : b == a with
  | false => rfl
  | true =>
    have := beq_iff_eq.mp e
    rw [this, beq_self_eq_true] at h
    cases h
theorem lk_class (n : Nm f) : (eS f).names.lookup ("__class__" : Str) = some .free := by
  have h := flip n.c
  show List.lookup (PySem.Str.ofString "__class__") [(PySem.Str.ofString "self", NameKind.local), (f, .local), (PySem.Str.ofString "__class__", .free), (PySem.Str.ofString "super", .globalImplicit)] = _
  rw [List.lookup_cons, show (PySem.Str.ofString "__class__" == PySem.Str.ofString "self") = false by decide +kernel, List.lookup_cons, show (PySem.Str.ofString "__class__" == f) = false from h, List.lookup_cons, beq_self_eq_true]
theorem lk_super (n : Nm f) : (eS f).names.lookup ("super" : Str) = some .globalImplicit := by
  have h := flip n.u
  show List.lookup (PySem.Str.ofString "super") [(PySem.Str.ofString "self", NameKind.local), (f, .local), (PySem.Str.ofString "__class__", .free), (PySem.Str.ofString "super", .globalImplicit)] = _
  rw [List.lookup_cons, show (PySem.Str.ofString "super" == PySem.Str.ofString "self") = false by decide +kernel, List.lookup_cons, show (PySem.Str.ofString "super" == f) = false from h, List.lookup_cons, show (PySem.Str.ofString "super" == PySem.Str.ofString "__class__") = false by decide +kernel, List.lookup_cons, beq_self_eq_true]
theorem err_init (T : ErrTxt prog K mg x f C fI) {e t0 : Addr} {v : Value} (X : K.In s.heap) (hlim : s.heap.NoLimit) (hG : s.heap.Ns mainGlobals mg) (hB : s.heap.Ns builtinsNs mb) (hmb : ∀ x : Str, x ≠ "__name__" → mb x = bootBuiltins x)
    (hx : s.heap.get? e = some (excO C t0)) (hnx : K.lookup e = none) (hroom : A.depth < recursionLimit)
    (hq : ∀ h' tk dx, InitEnd f s.heap h' e C dx v → R (.ok (.ret .none)) { s with heap := h', toks := tk }) :
    codeAny (model prog w) A (.call (.ref fI) ⟨[.ref e, v], []⟩) R s := by
  obtain ⟨oc, od, qual, m, doc, pm, an, cda, cc, ct, osl, p1, p2, p3, p4, p5, p6, p7, p8, q1, q2, q3, q4, ccl, cdd, vs, ccs, file, tf, cl, cld, csl, ho, hcd, hcode, hvs, hfile, hpos, hcell⟩ := T.fn
  obtain ⟨nm, q, N, bs, bm, sn, sub, ab, col, dd, k0, k1, k2, k3, k5, hC, hbm⟩ := T.cls
  have hcl : clsIn K C = some { name := nm, bases := bs, mro := .ref C :: bm, ns := N, qualname := q, hasDict := true, slotNames := sn, subclasses := sub, abstract := ab, collection := col, hasDel := false } := by unfold clsIn; rw [hC] <;> rfl
  have lf := lk_f T.nm
  have lc := lk_class T.nm
  have ls := lk_super T.nm
  have n := T.nm
  refine ks_codeAny_call_defAt (fd := ksFn "__init__" qual (eA f p1 p2) (eB f m p3 p4 p5 p6 p7 p8 q1 q2 q3 q4) (eS f) .none .none doc pm an (.ref cda) ct cc) (body := eB f m p3 p4 p5 p6 p7 p8 q1 q2 q3 q4) (binds := [("self", .ref e), (f, v)]) hroom (X _ _ ho) rfl hlim (codeRec_of X hcd) rfl
    (BindsTo.of_eq (n.bd _ _ _ _ _ _ _ _ _ _ _ _)) (fun y hy => ?_) (fun y hy => ?_) (fun h₁ hns hk₁ => ?_) rfl rfl rfl
  · rcases List.mem_cons.mp hy with rfl | hy
    · intro z; cases z
    rcases List.mem_cons.mp hy with rfl | hy
    · intro z; cases z
    rcases List.mem_cons.mp hy with rfl | hy
    · intro z; cases z
    rcases List.mem_cons.mp hy with rfl | hy
    · intro z; cases z
    cases hy
  · rcases List.mem_cons.mp hy with rfl | hy
    · exact lk_self
    rcases List.mem_cons.mp hy with rfl | hy
    · exact lf
    cases hy
  have hL : (fun y => ([("self", .ref e), (f, v)] : List (Str × Value)).reverse.lookup y) ("self" : Str) = some (.ref e) := by
    show List.lookup _ [(f, v), (("self" : Str), Value.ref e)] = _
    rw [List.lookup_cons, flip n.s, List.lookup_cons, beq_self_eq_true]
  have hV : (fun y => ([("self", .ref e), (f, v)] : List (Str × Value)).reverse.lookup y) f = some v := by
    show List.lookup _ [(f, v), (("self" : Str), Value.ref e)] = _
    rw [List.lookup_cons, beq_self_eq_true]
  obtain ⟨hp, g, d, tk, os⟩ := s
  have hx₁ := hk₁ _ _ hx
  have X₁ : K.In h₁ := X.keeps hk₁
  have Le : e ≠ hp.objs.size := Nat.ne_of_lt (Heap.lt_size hx)
  have I₁ : InstAt h₁ e (excO C t0) C none := ⟨hx₁, rfl, rfl, trivial⟩
  -- super().__init__(m)
  show PySem.wpAt _ _ _ (execs [_, _] (ksEnv qual (eS f) hp.objs.size fI (.ref cda) cc)) _ _ _
  obtain ⟨pl, ev⟩ := ev_super qual m (eS f) hp.objs.size fI cc (.ref cda) p3 p4 p5 p6 p7 hpos
  refine ks_wpAt_execs_cons (ks_wpAt_Expr_any (ks_wpAt_MethodCall (pl := pl) ?_ ev) rfl rfl)
  refine ks_wpAt_super_base (env := ksEnv qual (eS f) hp.objs.size fI (.ref cda) cc) ls lc (by decide) rfl (X₁ _ _ ho) rfl rfl rfl (X₁ _ _ hcode) rfl hvs hfile T.top ?_
  refine ks_loadName_global rfl ls (loadGlobal_builtin (env := ksEnv qual (eS f) hp.objs.size fI (.ref cda) cc) (hG.keeps hk₁) T.gS (hB.keeps hk₁) ((hmb _ (by decide +kernel)).trans (by first | boot_by_name | rfl | kernel_rfl)) ⟨rfl, ?_⟩)
  refine wpAny_loadName_free rfl lc rfl ⟨_, X₁ _ _ hcell, rfl⟩ ?_
  refine wpAny_loadName_local rfl lk_self hns hL ?_
  refine ks_wpAny_isType_cls (X₁ _ _ hC) rfl ⟨rfl, ?_⟩
  refine ks_wpAny_call_super (X₁ _ _ hC) rfl hx₁ rfl (fun c z => by cases z) (looks_mroIn X₁ T.mrC) (fun h₂ hso k₂ => ?_)
  have X₂ : K.In h₂ := X₁.keeps k₂
  have hx₂ := k₂ _ _ hx₁
  have I₂ : InstAt h₂ e (excO C t0) C none := ⟨hx₂, rfl, rfl, trivial⟩
  have hsu : alongIn K "__init__" (((Value.ref C :: bm).dropWhile (· != .ref C)).drop 1) = some (some (.builtin "ValueError.__init__")) := by
    have z := T.suC
    unfold ks_superIn at z
    rw [hcl] at z
    exact z
  refine kxs_getMethod kxs_ValueError hso (looks_opaque X₂ T.op) (l₀ := .ref C :: bm) ((looks_clsIn X₂ hcl).andThen .now) rfl X₂ hsu (I₂.type.andThen (looks_subIn X₂ T.veC)) (ks_ne X₂ I₂ hcl) (by decide +kernel) ?_
  have hmw : (h₂.push (kxs_mw "ValueError.__init__" e)).get? h₂.objs.size = some (kxs_mw "ValueError.__init__" e) := Heap.get?_push_at rfl rfl
  have k₃ : ∀ b o, h₂.get? b = some o → (h₂.push (kxs_mw "ValueError.__init__" e)).get? b = some o := fun b o z => Heap.get?_push_of_some _ z
  generalize h₂.push (kxs_mw "ValueError.__init__" e) = h₃ at hmw k₃
  have X₃ : K.In h₃ := X₂.keeps k₃
  have hx₃ := k₃ _ _ hx₂
  refine kxs_callWith (i := "ValueError.__init__") (x := e) (by rfl) ?_
  refine evalArgs_plain (spliced_cons (Constant_str (k := 0) (pos := p6) ?_))
  refine spliced_nil ⟨hmw, ?_⟩
  show wpAny _ _ (call (.ref h₂.objs.size) [Value.str m _] []) _ _ _
  refine wpAny_call (codeAny_of_tree ?_)
  show wpAny _ _ (callAny (.ref h₂.objs.size) ⟨[Value.str m _], []⟩) _ _ _
  simp only [callAny]
  refine wpAny_bind (wpAny_load hmw ?_)
  simp only [kxs_mw, show (Value.type "method-wrapper" == Value.type "method" || Value.type "method-wrapper" == Value.type "builtin_function_or_method" || Value.type "method-wrapper" == Value.type "method-wrapper") = true by decide, if_true]
  refine KFB.if_so (by decide) ?_
  refine wpAny_bind (check_bound_init F.excBase_ValueError.toExcCallFacts (X₃ _ _ hC) hx₃ rfl ?_)
  refine wpAny_bind (wpAny_pure (wpAny_pure ?_))
  refine ⟨plainId_quiet F.excBase_ValueError.init.plain _, codeAny_builtin F.excBase_ValueError.initEntry ?_⟩
  refine exc_init_tree (cls := .ref C) (t0 := t0) (dv := none) (c2 := .none) (c3 := .none) (b4 := .bool false) hx₃ (one_size _) fun h₄ k₄ hx₄ _ => ?_
  -- self.f = f
  have k13 : ∀ b o, h₁.get? b = some o → h₃.get? b = some o := fun b o z => k₃ b o (k₂ b o z)
  have X₄ : K.In h₄ := fun b o z => k₄ b o (fun y => by rw [y, hnx] at z; cases z) (X₃ b o z)
  have hns₄ : h₄.Ns hp.objs.size (fun y => ([("self", .ref e), (f, v)] : List (Str × Value)).reverse.lookup y) := hns.at fun o z => k₄ _ o (Ne.symm Le) (k13 _ o z)
  show PySem.wpAt _ _ _ (execs [_] (ksEnv qual (eS f) hp.objs.size fI (.ref cda) cc)) _ _ _
  refine ks_wpAt_execs_cons (ks_wpAt_Assign_Attr (PySem.wpAt_of_wpAny ?_) rfl)
  refine wpAny_Name (wpAny_loadName_local rfl lf hns₄ hV ?_) n.d
  refine wpAny_Name (wpAny_loadName_local rfl lk_self hns₄ hL ?_) (by decide +kernel)
  refine set_plain X₄ (ox := excO C _) (od := none) ⟨hx₄, rfl, rfl, trivial⟩ T.sa ?_
  refine exc_osa X₄ hx₄ hcl (show refsVE (.ref C :: bm) = true from hbm) rfl T.noN (fun h₅ tk₅ dx k₅ dn dne hx₅ hn₅ => ?_)
  refine PySem.wpAt_of_wpAny (wpAny_execs_nil (hq h₅ tk₅ dx ⟨fun b o hb z => k₅ b o hb (k₄ b o hb (k13 b o (hk₁ b o z))), ⟨_, hx₅⟩, ?_, dne, hn₅⟩))
  have z : hp.objs.size < h₄.objs.size := hns₄.lt
  exact Nat.le_of_lt (Nat.lt_of_lt_of_le z dn)
theorem err_made (T : ErrTxt prog K mg x f C fI) {v : Value} (X : K.In s.heap) (hlim : s.heap.NoLimit) (hG : s.heap.Ns mainGlobals mg) (hB : s.heap.Ns builtinsNs mb) (hmb : ∀ x : Str, x ≠ "__name__" → mb x = bootBuiltins x) (hroom : A.depth + 1 < recursionLimit)
    (hq : ∀ h' tk e d, OwnMade f s.heap h' e C d v → R (.ok (.ret (.ref e))) { s with heap := h', toks := tk }) :
    codeAny (model prog w) A (.call (.ref C) ⟨[v], []⟩) R s := by
  obtain ⟨nm, q, N, bs, bm, sn, sub, ab, col, dd, k0, k1, k2, k3, k5, hC, hbm⟩ := T.cls
  obtain ⟨hp, g, dr, tk, os⟩ := s
  have k : ∀ b o, hp.get? b = some o → ((hp.push (kdv_tup [v])).push (excO C hp.objs.size)).get? b = some o := fun b o e => Heap.get?_push_of_some _ (Heap.get?_push_of_some _ e)
  have hget : ((hp.push (kdv_tup [v])).push (excO C hp.objs.size)).get? (hp.objs.size + 1) = some (excO C hp.objs.size) := by heap_get
  have hnx : K.lookup (hp.objs.size + 1) = none := by
    cases e : K.lookup (hp.objs.size + 1) with
    | none => rfl
    | some o =>
      have z : hp.get? (hp.objs.size + 1) = some o := X _ _ e
      exact absurd (Nat.lt_of_succ_lt (Heap.lt_size z)) (Nat.lt_irrefl _)
  refine call_own F.excBase_ValueError (fun X => refsVE_contains X bm hbm) (X _ _ hC) (looks_findIn X T.iC) (fun self => bind_fn X self T.tC) (one_size v) ?_
  refine err_init (s := ⟨(hp.push (kdv_tup [v])).push (excO C hp.objs.size), g, dr, tk, os⟩) T (X.keeps k) (hlim.keeps k) (hG.keeps k) (hB.keeps k) hmb hget hnx ?_ fun h' tk' dx ⟨k', hx, dn, dne, hns⟩ => ?_
  · show A.depth + 1 < recursionLimit
    exact hroom
  · have old : ∀ b o, hp.get? b = some o → h'.get? b = some o := fun b o e => k' b o (Nat.ne_of_lt (Nat.lt_succ_of_lt (Heap.lt_size e))) (k b o e)
    have z : hp.objs.size + 1 + 1 ≤ dx := by
      first
        | (simpa only [Heap.size_push] using dn)
        | exact dn
        | (have q := dn; rw [Heap.size_push, Heap.size_push] at q; exact q)
    obtain ⟨t1, hx⟩ := hx
    exact ⟨rfl, hq h' tk' (hp.objs.size + 1) dx ⟨old, Nat.le_succ _, ⟨_, _, hx, rfl, rfl, rfl, rfl⟩, Nat.le_trans (Nat.le_trans (Nat.le_succ _) (Nat.le_succ _)) z, dne, hns⟩⟩
end
end Lj
set_option Elab.async false
set_option linter.all false
set_option maxRecDepth 100000
set_option maxHeartbeats 2000000
/-! # errors: made, raised, caught and kept as a value, asked -/
namespace Lj
open PySem PySem.Spec PyProof.Rows L2
/-! ### promises of defs that may raise, where nothing is being shown -/
structure FnE (P : Program) (w : World) (K : PySem.W.Frag) (mg : Str → Option Value) (base : Heap) (k : Nat) (f : Addr) (fd : FuncData) (ps : List Str) (sp : Sp) : Prop where
  len : ∀ vs H Q E, sp vs H Q E → vs.length = ps.length
  run : ∀ (A : Around) (out : List Env) (s : Shared) (H : Hp) (as : Args) (us : List Value) (vs : List V) (Q : VK) (E : XK), A.guards = some [] → Room k A → Env0 P w K mg base A out s H →
    BindsTo s fd as (ps.zip us) → Vals vs us → sp vs H Q E → codeAny (model P w) A (.call (.ref f) as) (CR (L2.CX P w) out P w H s Q E) s
section
variable {P : Program} {w : World} {K : PySem.W.Frag} {mg : Str → Option Value} {base : Heap} {j k : Nat} {f : Addr} {fd : FuncData} {ps : List Str} {sp sp' : Sp}
theorem FnE.up (F : FnE P w K mg base j f fd ps sp) (h : j ≤ k) : FnE P w K mg base k f fd ps sp := ⟨F.len, fun A out s H as us vs Q E g r => F.run A out s H as us vs Q E g (r.mono h)⟩
theorem FnE.weak (F : FnE P w K mg base k f fd ps sp) (h : ∀ vs H Q E, sp' vs H Q E → sp vs H Q E) : FnE P w K mg base k f fd ps sp' :=
  ⟨fun vs H Q E q => F.len vs H Q E (h _ _ _ _ q), fun A out s H as us vs Q E g r e b v q => F.run A out s H as us vs Q E g r e b v (h _ _ _ _ q)⟩
/-- by the def's body -/
theorem FnE.body {x qual : Str} {st : Stmt} {N : List Str} (F : Fun K x qual st f fd) (S : FnScope N ps (defScope st)) (len : ∀ vs H Q E, sp vs H Q E → vs.length = ps.length)
    (hb : ∀ (cdv : Value) (A : Around) (out : List Env) (s : Shared) (H : Hp) (vs : List V) (Q : VK) (E : XK), A.guards = some [] → Room k (A.deeper (envOfC qual (defScope st) s.heap.objs.size f cdv)) → sp vs H Q E →
      ∃ t, PSs (cxOf (L2.CX P w) P w K mg base N qual (defScope st) f cdv A out s H E) (defBody st) t ∧ t { nx := fun _ H' => Q .non H', rt := Q } (start N vs) H) : FnE P w K mg base (k + 1) f fd ps sp := by
  obtain ⟨c0, c1, c2, c3, c4, c5, cd, c6, c7, rfl, look, code⟩ := F.ex
  refine ⟨len, fun A out s H as us vs Q E hg room env bind vals want => ?_⟩
  have ln := len _ _ _ _ want
  have old : ∀ b o, base.get? b = some o → s.heap.get? b = some o := fun b o e => (env.bs b o e).1
  have here : K.In s.heap := env.mod.kin.keeps old
  refine codeAny_call_function room.depth (here _ _ look) rfl S.co S.gen rfl (PySem.W.codeRec_of here code) (bind _ _ _ _ ?_)
  refine wpAny_newFunctionEnv_cells S.kind (fun ⟨n, v⟩ m => (S.par n (List.of_mem_zip m).1).elim .inl fun c => .inr ⟨c, PySem.W.cellsFrom_some _ _ _ (.inl c)⟩) fun en he s1 x => ?_
  subst he
  refine ⟨(env.mod.nolimit.keeps old).keeps x.toInCall.keep, codeAny_func ?_⟩
  obtain ⟨t, rule, holds⟩ := hb cd A out s H vs Q E hg (room.deeper _) want
  have start0 := inv_start (CX := L2.CX P w) (E := E) S room.hd env ln vals x
  refine wpAny_mono (rule.run [] s1 (start N vs) H _ start0 holds) (fun r s' z => ?_) fun _ _ z => z
  match r, z with
  | .ret u, ⟨v, σ', H', J, rv, q⟩ => exact ⟨v, H', J.os, J.bare, J.base, J.hok, rv, q⟩
  | .next, ⟨σ', H', J, q⟩ => exact ⟨.non, H', J.os, J.bare, J.base, J.hok, rfl, q⟩
  | .brk, ⟨_, _, _, q⟩ => exact False.elim q
  | .cont, ⟨_, _, _, q⟩ => exact False.elim q
end
/-- where a def that may raise stands, under the name x, with its promise -/
structure CalE (P : Program) (w : World) (K : PySem.W.Frag) (mg : Str → Option Value) (base : Heap) (k : Nat) (x : Str) (ps : List Str) (f : Addr) (fd : FuncData) (sp : Sp) : Prop where
  ok : FnE P w K mg base k f fd ps sp
  kp : PySem.W.keepIn K (.ref f) = true
  b : Binds K fd ps []
  g : mg x = some (.ref f)
  lk : ∃ oc od osl, K.lookup f = some ⟨oc, od, .func fd, osl⟩
def HasE (P : Program) (w : World) (K : PySem.W.Frag) (mg : Str → Option Value) (base : Heap) (k : Nat) (x : Str) (ps : List Str) (sp : Sp) : Prop := ∃ f fd, CalE P w K mg base k x ps f fd sp
section
variable {P : Program} {w : World} {K : PySem.W.Frag} {mg : Str → Option Value} {base : Heap} {j k : Nat} {x : Str} {ps : List Str} {sp sp' : Sp}
theorem HasE.up (h : HasE P w K mg base j x ps sp) (l : j ≤ k) : HasE P w K mg base k x ps sp := by
  obtain ⟨f, fd, c⟩ := h
  exact ⟨f, fd, c.ok.up l, c.kp, c.b, c.g, c.lk⟩
theorem HasE.weak (h : HasE P w K mg base k x ps sp) (i : ∀ vs H Q E, sp' vs H Q E → sp vs H Q E) : HasE P w K mg base k x ps sp' := by
  obtain ⟨f, fd, c⟩ := h
  exact ⟨f, fd, c.ok.weak i, c.kp, c.b, c.g, c.lk⟩
theorem HasE.by {st : Stmt} {N : List Str} (F : At K mg x st ps) (S : FnScope N ps (defScope st)) (len : ∀ vs H Q E, sp vs H Q E → vs.length = ps.length)
    (hb : ∀ (f : Addr) (cdv : Value) (A : Around) (out : List Env) (s : Shared) (H : Hp) (vs : List V) (Q : VK) (E : XK), A.guards = some [] → Room k (A.deeper (envOfC x (defScope st) s.heap.objs.size f cdv)) → sp vs H Q E →
      ∃ t, PSs (cxOf (L2.CX P w) P w K mg base N x (defScope st) f cdv A out s H E) (defBody st) t ∧ t { nx := fun _ H' => Q .non H', rt := Q } (start N vs) H) : HasE P w K mg base (k + 1) x ps sp := by
  obtain ⟨f, fd, F, b, g⟩ := F
  exact ⟨f, fd, .body F S len (hb f), F.kp, b, g, fun_lk F⟩
/-- what raises nothing is a promise of both kinds -/
theorem HasE.calm (h : HasE P w K mg base k x ps sp) (i : ∀ vs H Q E, sp' vs H Q E → sp vs H Q E0) : Has P w K mg base k x ps sp' := by
  obtain ⟨f, fd, c⟩ := h
  refine ⟨f, fd, ⟨fun vs H Q E q => c.ok.len vs H Q E0 (i _ _ _ _ q), fun A out s H as us vs Q E g r e b v q => ?_⟩, c.kp, c.b, c.g, c.lk⟩
  refine codeAny_mono (c.ok.run A out s H as us vs Q E0 g r e b v (i _ _ _ _ q)) fun r s' z => ?_
  match r, z with
  | .error _, z =>
    obtain ⟨_, _, _, _, _, _, _, _, _, _, _, _, z⟩ := z
    exact z.elim
  | .ok (.ret _), z => exact z
  | .ok .next, z => exact z.elim
  | .ok .brk, z => exact z.elim
  | .ok .cont, z => exact z.elim
end
section
variable {X : Cx} {k : Nat} {x : Str} {ps ks : List Str} {f : Addr} {fd : FuncData} {sp : Sp} {p pos : Pos} {e : Expr} {es : List Expr} {t : TA} {E : L2.St → XK}
theorem calE_run {pins : List (Addr × Obj)} {σ : L2.St} {H : Hp} {s : Shared} {Q : VK} {us zs : List Value} {vs : List V} {kw : List (Str × Value)} (c : FnE X.prog X.w X.K X.mg X.base k f fd ps sp) (hg : X.A.guards = some []) (hr : Room k X.A) (hx : PassesAt (L2.CX X.prog X.w) X σ (E σ))
    (I : Inv X pins σ H s) (bind : BindsTo s fd ⟨us, kw⟩ (ps.zip zs)) (vals : Vals vs zs) (h : sp vs H Q (E σ)) : wpAny (model X.prog X.w) X.A (call (.ref f) us kw) (EP X pins σ Q) X.xe s := by
  refine wpAny_call (codeAny_mono (c.run X.A X.stack s H ⟨us, kw⟩ zs vs Q (E σ) hg hr I.env0 bind vals h) fun r s' z => ?_)
  match r, z with
  | .error e, z => exact hx pins H s e s' I z
  | .ok (.ret _), z => exact I.after z
  | .ok .next, z => exact z.elim
  | .ok .brk, z => exact z.elim
  | .ok .cont, z => exact z.elim
/-- f(e, ..), which may raise -/
theorem pe_calE (c : CalE X.prog X.w X.K X.mg X.base k x ps f fd sp) (hg : X.A.guards = some []) (hr : Room k X.A) (gl : Gl X x) (hx : ∀ σ, PassesAt (L2.CX X.prog X.w) X σ (E σ)) (ha : PA X (e :: es) t) (hdb : (x == ("__debug__" : Str)) = false := by decide)
    (he : starEach (e :: es) X.env = (false, eval e X.env) :: starEach es X.env := by rfl) (hpl : (backTo pos (starEach es X.env)).any (·.1) = false := by rfl) :
    PE X (.Call (.Name x p) (e :: es) [] pos) (tCallS sp E t) := by
  refine ⟨fun pins s σ H Q I h => wpAny_Call_Name_kw (ld_glob I gl c.g ?_ hdb)⟩
  refine PySem.W.callWith_K (h₀ := X.base) I.ok.mod.kin c.kp (thn (ha.run pos pins s σ H _ I h) fun us s1 ⟨vs, H1, I1, r, q⟩ => ⟨I1.kIn, ?_⟩) he hpl
  have ln : (us ++ []).length = ps.length := by
    rw [List.append_nil, ← r.length]
    exact c.ok.len _ _ _ _ q
  have bd := c.b s1 us I1.kIn ln
  rw [List.append_nil] at bd
  exact calE_run c.ok hg hr (hx σ) I1 bd r q
end
/-! ### an error made, raised -/
section
variable {X : Cx} {C fI : Addr} {x f : Str}
/-- x(e), then raised -/
def tMkErr (f : Str) (C : Addr) (ta : TA) : L2.St → Hp → XK → Prop := fun σ H Q => ta σ H fun vs H1 => ∃ v, vs = [v] ∧ ∀ d, H1 d = none → Q (.ref C) (some d) (upd H1 d (.xd [(f, v)]))
theorem pmk_err {a : Expr} {ta : TA} {p pos : Pos} {k : Nat} (T : ErrTxt X.prog X.K X.mg x f C fI) (hr : Room k X.A) (ha : PA X [a] ta) (hg : Gl X x) (hdb : (x == ("__debug__" : Str)) = false := by decide)
    (he : starEach (a :: []) X.env = (false, eval a X.env) :: starEach [] X.env := by rfl) (hpl : (backTo pos (starEach [] X.env)).any (·.1) = false := by rfl) :
    PMk X (.Call (.Name x p) [a] [] pos) (tMkErr f C ta) := by
  intro pins s σ H Q I h
  refine wpAny_Call_Name_kw (ld_glob I hg T.gC ?_ hdb)
  refine PySem.W.callWith_K (h₀ := X.base) I.ok.mod.kin T.kC (thn (ha.run pos pins s σ H _ I h) fun us s1 hh => ?_) he hpl
  obtain ⟨vs, H1, I1, r1, v, ev, q1⟩ := hh
  subst ev
  refine ⟨I1.kIn, ?_⟩
  cases r1 with
  | cons rv rn =>
    rename_i v' us'
    cases rn
    show wpAny _ _ (call (.ref C) [v']) _ _ _
    have hlim := I1.nolimit
    obtain ⟨mb, hb1, hb2⟩ := I1.mod.blt
    have hG := I1.mod.glob.keeps I1.bk
    have hB := hb1.keeps I1.bk
    obtain ⟨hp, g, dr, tk, os⟩ := s1
    refine wpAny_call (err_made T I1.kIn hlim hG hB hb2 (by have := hr.dp; omega) fun h' tk' e d M => ?_)
    show MkP X pins σ Q (.ref e) ⟨h', g, dr, tk', os⟩
    obtain ⟨oe, fv, hoe, hc, hd, hdat, h1⟩ := M.obj
    have hns := M.ns
    obtain ⟨G', g1, g2⟩ := restrict h' fun b => decide (b ≠ e)
    have gk : ∀ b, b ≠ e → G'.get? b = h'.get? b := fun b hb => g1 b (decide_eq_true hb)
    have ge : G'.get? e = none := g2 e (by simp)
    have old : ∀ b o, hp.get? b = some o → G'.get? b = some o := fun b o q => (gk b (Nat.ne_of_lt (Nat.lt_of_lt_of_le (Heap.lt_size q) M.new))).trans (M.keep b o q)
    have ob : ObjOk X.prog X.w (upd H1 d (.xd [(f, v)])) G' d (.xd [(f, v)]) :=
      ⟨_, hns.at (fun o q => (gk d M.dne).trans q), fun f => relO_put (fs := []) (mA := fun _ => none) rv (fun _ => True.intro) f⟩
    have J : Inv X pins σ (upd H1 d (.xd [(f, v)])) ⟨G', g, dr, tk', os⟩ := I1.laid (t' := tk') old M.dbig ob
    refine ⟨e, oe, fv, ⟨G', g, dr, tk', os⟩, _, .ref C, some d, rfl, J, fun b o q => ?_, ge, hoe, ⟨hc, hd⟩, hdat, h1, ?_, rfl, I1.bare, raises_own T.exC T.tyC, q1 d (I1.hok.fresh M.dbig)⟩
    · by_cases hb : b = e
      · have q' : G'.get? b = some o := q
        rw [hb, ge] at q'; cases q'
      · exact (gk b hb).symm.trans q
    · rw [upd_ne (Ne.symm M.dne)]
      exact I1.hok.fresh M.new
/-- raise x(e) -/
def tRaiseErr (f : Str) (C : Addr) (W : WX) (ta : TA) : TS := fun _ σ H => tMkErr f C ta σ H fun cls d H' => W cls d σ H'
theorem ps_raiseErr {a : Expr} {ta : TA} {W : WX} {p pos pos2 : Pos} {k : Nat} (hc : X.calm = true) (T : ErrTxt X.prog X.K X.mg x f C fI) (hr : Room k X.A) (tk : Takes X W) (ha : PA X [a] ta) (hg : Gl X x) (hdb : (x == ("__debug__" : Str)) = false := by decide)
    (he : starEach (a :: []) X.env = (false, eval a X.env) :: starEach [] X.env := by rfl) (hpl : (backTo pos (starEach [] X.env)).any (·.1) = false := by rfl) :
    PS X (.Raise (some (.Call (.Name x p) [a] [] pos)) none pos2) (tRaiseErr f C W ta) := ps_raise hc tk (pmk_err T hr ha hg hdb he hpl)
end
/-! ### an error as a value -/
/-- at a: an error of the class cls, its dict d -/
def exv (a : Addr) (cls : Value) (d : Option Addr) : HO := .ext fun h => ∃ (oe : Obj) (vs : Array Value), h.get? a = some oe ∧ Zc cls d oe ∧ oe.data = .fields vs
theorem exv_ok {P : Program} {w : World} {H : Hp} {h : Heap} {a : Addr} {cls : Value} {d : Option Addr} {oe : Obj} {vs : Array Value} (e : h.get? a = some oe) (z : Zc cls d oe) (hd : oe.data = .fields vs) : ObjOk P w H h a (exv a cls d) :=
  ⟨⟨oe, vs, e, z, hd⟩, ⟨oe, e⟩, fun _ _ ⟨o, v, q, r⟩ k => ⟨o, v, k o q, r⟩⟩
theorem exv_at {P : Program} {w : World} {H : Hp} {h : Heap} {a : Addr} {cls : Value} {d : Option Addr} (hok : HOk P w H h) (he : H a = some (exv a cls d)) : ∃ (oe : Obj) (vs : Array Value), h.get? a = some oe ∧ Zc cls d oe ∧ oe.data = .fields vs := by
  have x : ObjOk P w H h a (.ext fun h => ∃ (oe : Obj) (vs : Array Value), h.get? a = some oe ∧ Zc cls d oe ∧ oe.data = .fields vs) := hok a _ he
  exact x.1
section
variable {X : Cx} {pins : List (Addr × Obj)} {σ : L2.St} {H : Hp} {s : Shared}
/-- an object that was not there at the entry, tracked from now on -/
theorem track {a : Addr} {o : HO} (I : Inv X pins σ H s) (n0 : X.s_0.heap.get? a = none) (hn : H a = none) (nL : a ≠ X.env.locals) (nC : ∀ x c, X.env.cells.lookup x = some c → c ≠ a) (np : ∀ p ∈ X.pn ++ pins, p.1 ≠ a)
    (new : ObjOk X.prog X.w (upd H a o) s.heap a o) : Inv X pins σ (upd H a o) s := by
  refine ⟨I.ok, I.os, I.bare, ⟨I.base.keep, I.base.slot, fun b u q n hx => ?_, I.base.there, fun b xs q => ?_, fun b u v q => ?_, fun b ps q => ?_⟩, I.loc, I.cell, ?_, fun x c e => ?_, fun p hp => ?_, fun b u e => ?_, I.len⟩
  · rw [upd_ne (fun z => by rw [z, n0] at q; cases q)]
    exact I.base.free b u q n hx
  · have q' := I.base.tups b xs q
    rw [upd_ne (ne_of_none q' hn)]
    exact q'
  · have q' := I.base.frzs b u v q
    rw [upd_ne (ne_of_none q' hn)]
    exact q'
  · obtain ⟨m, q'⟩ := I.base.tbls b ps q
    exact ⟨m, by rw [upd_ne (ne_of_none q' hn)]; exact q'⟩
  · rw [upd_ne (Ne.symm nL)]
    exact I.free
  · rw [upd_ne (nC x c e)]
    exact I.freeC x c e
  · obtain ⟨e, n, ne, nf, d⟩ := I.pin p hp
    exact ⟨e, by rw [upd_ne (np p hp)]; exact n, ne, nf, d⟩
  · by_cases hb : b = a
    · subst hb
      rw [upd_same] at e
      cases e
      exact new
    · rw [upd_ne hb] at e
      exact (I.hok b u e).stay (fun _ _ _ q => q) (fun c q => by rw [upd_ne (ne_of_none q hn)]; exact q) fun c xs q => by rw [upd_ne (ne_of_none q hn)]; exact q
end
/-! ### try: body, except x as n: suite; the error is kept as a value -/
/-- what the clause wishes of an error of the body: slot i is n's -/
def wKeep (K : PySem.W.Frag) (c : Value) (i : Nat) (ts : TS) (Wout : WX) (D : Ends) : WX := fun cls d σ H =>
  ∃ b, PySem.W.exmOne K cls c = some b ∧ (b = true → ∀ a, H a = none → ts { nx := fun σ' H' => D.nx (σ'.set i none) H', rt := D.rt, bk := fun σ' H' => D.bk (σ'.set i none) H', ct := fun σ' H' => D.ct (σ'.set i none) H' } (σ.set i (some (.ref a))) (upd H a (exv a cls d))) ∧
    (b = false → Wout cls d σ H)
section
variable {X : Cx} {x n : Str} {c : Value} {i : Nat} {body suite : List Stmt} {b₀ : Stmt} {np pos pos' : Pos} {tb : WX → TS} {ts : TS} {Wout : WX}
theorem suiteK {pins : List (Addr × Obj)} {σ : L2.St} {H : Hp} {s : Shared} (I : Inv X pins σ H s) (a : Addr) : Inv (X.suite a (X.pn ++ pins)) [] σ H s :=
  ⟨I.ok.suite _ _, I.os, I.bare, I.base, I.loc, I.cell, I.free, I.freeC, fun p hp => I.pin p (by rw [List.append_nil] at hp; exact hp), I.hok, I.len⟩
theorem unsuiteK {pins pn' : List (Addr × Obj)} {σ : L2.St} {H : Hp} {s : Shared} {a : Addr} (I : Inv (X.suite a (X.pn ++ pins)) pn' σ H s) (ok : X.Ok) : Inv X pins σ H s :=
  ⟨ok, I.os, I.bare, I.base, I.loc, I.cell, I.free, I.freeC, fun p hp => I.pin p (List.mem_append_left _ hp), I.hok, I.len⟩
theorem ps_try_keep (hs : X.stack = X.env :: X.outer) (hf : X.env.frame = some X.env.locals) (hex : X.ex = []) (hN : X.N.Nodup) (hi : X.N[i]? = some n) (hln : X.env.kindOf n = some .local) (hc : Names X x c) (tk : Takes X Wout)
    (hb : ∀ (W : WX) (pn : List (Addr × Obj)) (xe : Value → Shared → Prop), Takes (X.tr pn xe) W → PassesOwn (model X.prog X.w) X.A X.env xe → PSs (X.tr pn xe) body (tb W))
    (hsu : ∀ (a : Addr) (pn : List (Addr × Obj)), PSs (X.suite a pn) (b₀ :: suite) ts) :
    PS X (.Try body [.ExceptHandler (some (.Name x np)) (some n) (b₀ :: suite) pos'] [] [] pos) (fun D σ H => tb (wKeep X.K c i ts Wout D) D σ H) := by
  refine ⟨fun pins s σ H D I h => ?_⟩
  have ok := I.ok
  have frm : X.A.frames = some (X.env :: X.outer) := by rw [ok.frames, hs]
  refine wpAny_Try_except ?_
  refine wpAny_mono ((hb (wKeep X.K c i ts Wout D) (X.pn ++ pins) (fun er s₁ => wpAny (model X.prog X.w) X.A (noteFrame er X.env) (fun _ s₂ => wpAny (model X.prog X.w) X.A (setFlight er none) (fun _ s₃ =>
    wpAny (model X.prog X.w) X.A (handleBy er X.env [.ExceptHandler (some (.Name x np)) (some n) (b₀ :: suite) pos']) (SP X pins D) X.xe s₃) X.xe s₂) X.xe s₁) (fun u s' air => ?_) PassesOwn.looking).run [] s σ H D (I.toTry _) h) (fun fl s1 sp => ?_) (fun er s1 he => he)
  · obtain ⟨a, B, sI, pins', σ', H', cls, d, rfl, J', gr, up, sky, na, os, ag, b, hb1, yes, no⟩ := air
    have J : Inv X pins σ' H' sI := J'.ofTry ok
    have sky' : Sky B (X.env :: X.outer) a (Zc cls d) X.env.locals s'.heap := by rw [← hs]; exact sky
    show wpAny (model X.prog X.w) X.A (noteFrame (.ref a) X.env) _ _ _
    refine Sky.land Zc.steady frm hf sky' fun h3 f3 u3 => ?_
    have J3 : Inv X pins σ' H' { s' with heap := h3 } := J.landed gr f3.1 (up.trans u3) os ag
    obtain ⟨o3, v3, he3, hz3, hd3⟩ := f3.there
    have nfr : a ∉ frs (X.env :: X.outer) := fun hm => by
      obtain ⟨_, o', e', hnf⟩ := f3.2.2.1.mem hm
      rw [he3] at e'
      cases e'
      exact hnf _ hd3
    have nL : a ≠ X.env.locals := fun z => nfr (List.mem_filterMap.mpr ⟨X.env, List.mem_cons_self, by rw [hf, z]⟩)
    have nF : a ∉ X.fs := fun hm => by
      obtain ⟨e, he, q⟩ := List.mem_filterMap.mp hm
      exact nfr (List.mem_filterMap.mpr ⟨e, List.mem_cons_of_mem _ he, q⟩)
    have nG : B.get? a = none := f3.2.1
    have nI : sI.heap.get? a = none := by
      cases e : sI.heap.get? a with
      | none => rfl
      | some o =>
        have z := gr a o e (by rw [hs]; exact nfr)
        rw [nG] at z
        cases z
    have n0 : X.s_0.heap.get? a = none := by
      cases e : X.s_0.heap.get? a with
      | none => rfl
      | some o =>
        obtain ⟨o', z⟩ := J.base.there a o e (by rw [hex]; exact fun z => nomatch z)
        rw [nI] at z
        cases z
    have nP : ∀ p ∈ X.pn ++ pins, p.1 ≠ a := fun p hp z => by
      have q := (J.pin p hp).1
      rw [z, nI] at q
      cases q
    have S3 := J3.suite he3 hd3 na nL nF
    refine wpAny_handleBy_cons (codeAny_handlers_test ?_) (by intro q; cases q)
    have lt : PySem.W.Looks (model X.prog X.w) h3 (typeOf (.ref a)) cls := fun A Q E s k q => wpAny_typeOf_ref (k _ _ he3) (by rw [hz3.1]; exact q)
    have lm := PySem.W.exm_one (M := model X.prog X.w) (J3.kIn) lt hb1
    have test : ∀ {Q : Value → Shared → Prop} {E : Value → Shared → Prop}, Q c { s' with heap := h3 } → wpAny (model X.prog X.w) (X.A.mark (some (.ref a))) (eval (.Name x np) X.env) Q E { s' with heap := h3 } := fun {Q E} q => by
      obtain ⟨g1, g2, g3 | ⟨g3, g4, g5⟩⟩ := hc
      · exact ld_glob (X := X.suite a ((a, o3) :: (X.pn ++ pins))) S3 g1 g3 q g2
      · exact ld_blt (X := X.suite a ((a, o3) :: (X.pn ++ pins))) S3 g1 g3 g4 q g5 g2
    refine test (lm.here ?_)
    cases b with
    | true =>
      refine codeAny_handlers_suite_as ?_
      refine HandSPX.lands_againZ f3 fun h4 f4 u4 => ?_
      have J4 : Inv X pins σ' H' { s' with heap := h4 } := J.landed gr f4.1 ((up.trans u3).trans u4) os ag
      obtain ⟨o4, v4, he4, hz4, hd4⟩ := f4.there
      have nC : ∀ x c, X.env.cells.lookup x = some c → c ≠ a := fun y c e z => by
        obtain ⟨v, o, q, hq⟩ := J4.cell y c e
        rw [z] at q
        have q' : h4.get? a = some o := q
        rw [he4] at q'
        cases q'
        rw [hd4] at hq
        cases hq
      have T4 : Inv X pins σ' (upd H' a (exv a cls d)) { s' with heap := h4 } := track J4 n0 na nL nC nP (exv_ok he4 hz4 hd4)
      have S4 := suiteK T4 a
      refine store_ok (X := X.suite a (X.pn ++ pins)) (v := .ref a) S4 hN hi (.inl hln) rfl (fun s5 S5 => ?_) (.inr hln)
      refine wpAny_mono ((hsu a (X.pn ++ pins)).run [] s5 _ (upd H' a (exv a cls d)) _ S5 (yes rfl a na)) (fun fl s6 sp => ?_) (fun _ _ z => False.elim z)
      have fin : ∀ {σ6 : L2.St} {H6 : Hp} {Q : Shared → Prop}, Inv (X.suite a (X.pn ++ pins)) [] σ6 H6 s6 → (∀ s7, Inv X pins (σ6.set i none) H6 s7 → Q s7) →
          wpAny (model X.prog X.w) X.A (do bindName X.env n .none; unbindBehindTheSuite X.env n pos') (fun _ s7 => Q s7) X.xe s6 := fun {σ6 H6 Q} S6 hq => gone_ok (unsuiteK S6 ok) hN hi hln hq
      cases fl with
      | next =>
        obtain ⟨σ6, H6, S6, q6⟩ := sp
        exact fin S6 fun s7 J7 => ⟨_, _, J7, q6⟩
      | brk =>
        obtain ⟨σ6, H6, S6, q6⟩ := sp
        exact fin S6 fun s7 J7 => ⟨_, _, J7, q6⟩
      | cont =>
        obtain ⟨σ6, H6, S6, q6⟩ := sp
        exact fin S6 fun s7 J7 => ⟨_, _, J7, q6⟩
      | ret u =>
        obtain ⟨v6, σ6, H6, S6, r6, q6⟩ := sp
        exact fin S6 fun s7 J7 => ⟨_, _, _, J7, r6, q6⟩
    | false =>
      show wpAny _ X.A (handleBy (.ref a) X.env []) _ _ _
      refine wpAny_handleBy_nil ?_
      obtain ⟨k1, k2, k3, oe, vs, T, oT, ts', he, hz, hd, h1, hr⟩ := id f3
      unfold PySem.passOn
      refine wpAny_bind (wpAny_field he hd h1 ?_)
      rw [if_neg (show ¬ ((Value.ref T == Value.none) = true) from by simp)]
      have fin : wpAny (model X.prog X.w) X.A (setFlight (.ref a) X.env.frame) (fun _ s4 => wpAny (model X.prog X.w) X.A (throw (.ref a) : Sem Flow) (SP X pins D) X.xe s4) X.xe { s' with heap := h3 } := by
        rw [hf]
        refine HandSPX.setFlight_upZ f3 fun h4 hh4 u4 => wpAny_throw (tk _ _ ?_)
        exact ⟨a, B, sI, pins, σ', H', cls, d, rfl, J, gr, (up.trans u3).trans u4, .inr (.inr (by rw [hs]; exact hh4)), na, os, ag, no rfl⟩
      first
        | exact wpAny_bind (wpAny_pure (wpAny_bind fin))
        | exact wpAny_bind fin
  · cases fl with
    | next =>
      obtain ⟨σ', H', J', q⟩ := sp
      exact wpAny_execs_nil ⟨σ', H', J'.ofTry ok, q⟩
    | brk =>
      obtain ⟨σ', H', J', q⟩ := sp
      exact ⟨σ', H', J'.ofTry ok, q⟩
    | cont =>
      obtain ⟨σ', H', J', q⟩ := sp
      exact ⟨σ', H', J'.ofTry ok, q⟩
    | ret u =>
      obtain ⟨v, σ', H', J', r, q⟩ := sp
      exact ⟨v, σ', H', J'.ofTry ok, r, q⟩
end
/-! ### asked -/
/-- what the class D says, so that isinstance asks its instances rightly, and their attributes are read -/
theorem exv_inst {P : Program} {w : World} {H : Hp} {h : Heap} {a D : Addr} {d : Option Addr} (hok : HOk P w H h) (he : H a = some (exv a (.ref D) d)) (hd : ∀ dd, d = some dd → ∃ fs, H dd = some (.xd fs)) : ∃ oe od, PySem.W.InstAt h a oe D od := by
  obtain ⟨oe, vs, e, ⟨z1, z2⟩, dt⟩ := exv_at hok he
  cases d with
  | none => exact ⟨oe, none, e, z1, by unfold PySem.W.notCls; rw [dt] <;> rfl, by rw [z2]; trivial⟩
  | some dd =>
    obtain ⟨fs, q⟩ := hd dd rfl
    have hx : ObjOk P w H h dd (.xd fs) := hok dd _ q
    obtain ⟨mA, ⟨o, es, ep, ho, _⟩, _⟩ := hx
    exact ⟨oe, some o, e, z1, by unfold PySem.W.notCls; rw [dt] <;> rfl, by rw [z2]; exact ho⟩
/-- isinstance(e, c), e an error of the class D -/
def rIsX (K : PySem.W.Frag) : List V → Hp → VK → Prop := fun xs H Q => ∃ (a D : Addr) (d : Option Addr) (c : V) (cv : Value) (b : Bool), xs = [.ref a, c] ∧ H a = some (exv a (.ref D) d) ∧ (∀ dd, d = some dd → ∃ fs, H dd = some (.xd fs)) ∧ ExcC K D ∧ ClsV c cv ∧ PySem.W.kitOne K (.ref D) cv = some b ∧ Q (.bl b) H
theorem kit_exc {K : PySem.W.Frag} {D x : Addr} {ox : Obj} {od : Option Obj} (C : ExcC K D) : PySem.W.KitX K (.ref x) (.ref D) (fun h => PySem.W.InstAt h x ox D od) := by
  refine PySem.W.kitx_exc ?_ C.hg C.hk C.hs C.ha C.hn C.ht C.hm
  obtain ⟨cd, hc, _⟩ := PySem.W.any_some C.hd
  rw [hc] <;> rfl
theorem call_isX {X : Cx} {K : PySem.W.Frag} (hK : X.K = K) : CallR X (.builtin "isinstance") (rIsX K) := by
  subst hK
  intro pins s σ H xs us Q I r h
  obtain ⟨a, D, d, c, cv, b, rfl, he, hd, C, k, e, q⟩ := h
  obtain ⟨u1, u2, rfl, r1, r2⟩ := vals2 r
  have e2 := k.eq r2
  subst e2
  cases (show u1 = Value.ref a from r1)
  obtain ⟨oe, od, J⟩ := exv_inst I.hok he hd
  exact PySem.W.kia_one (kit_exc C) I.kIn J e (fun z => nomatch z) fun tk => ⟨.bl b, H, I.tok tk, rfl, q⟩
/-- isinstance(e, (c, ..)) -/
def rIsXT (K : PySem.W.Frag) : List V → Hp → VK → Prop := fun xs H Q => ∃ (a D : Addr) (d : Option Addr) (tp : Addr) (cs : List V) (ws : List Value) (b : Bool), xs = [.ref a, .ref tp] ∧ H a = some (exv a (.ref D) d) ∧ (∀ dd, d = some dd → ∃ fs, H dd = some (.xd fs)) ∧ ExcC K D ∧ H tp = some (.tup cs) ∧ Paired ClsV cs ws ∧ PySem.W.kitAny K (.ref D) ws = some b ∧ Q (.bl b) H
theorem call_isXT {X : Cx} {K : PySem.W.Frag} (hK : X.K = K) : CallR X (.builtin "isinstance") (rIsXT K) := by
  subst hK
  intro pins s σ H xs us Q I r h
  obtain ⟨a, D, d, tp, cs, ws, b, rfl, he, hd, C, hT, k, e, q⟩ := h
  obtain ⟨u1, u2, rfl, r1, r2⟩ := vals2 r
  cases (show u1 = Value.ref a from r1)
  cases (show u2 = Value.ref tp from r2)
  obtain ⟨oe, od, J⟩ := exv_inst I.hok he hd
  obtain ⟨_, its, rv, o, h1, h2, n, h3⟩ := (show ObjOk X.prog X.w H s.heap tp (.tup cs) from I.hok tp _ hT)
  have e3 := ClsV.all k rv
  subst e3
  obtain ⟨oc, od', odt, osl⟩ := o
  dsimp only at h2 h3
  subst h2 h3
  exact PySem.W.kia_tup (kit_exc C) I.kIn J h1 e (fun z => nomatch z) fun tk => ⟨.bl b, H, I.tok tk, rfl, q⟩
/-- e.n, e an error of the class C -/
def tExvF (n : Str) (te : TE) (K : PySem.W.Frag) : TE := fun σ H Q => te σ H fun x H1 => ∃ (a C dd : Addr) (fs : List (Str × V)) (v : V), x = .ref a ∧ XfC K C ∧ PySem.W.findIn K (.ref C) n = some none ∧ H1 a = some (exv a (.ref C) (some dd)) ∧ H1 dd = some (.xd fs) ∧ fs.lookup n = some v ∧ Q v H1
theorem pe_exvF {X : Cx} {e : Expr} {te : TE} {pos : Pos} {n : Str} (he : PE X e te) (hb : attributeBase e n X.env (eval e X.env) = eval e X.env := by rfl) : PE X (.Attribute e n pos) (tExvF n te X.K) := by
  refine ⟨fun pins s σ H Q I h => ?_⟩
  refine attr_of hb (thn (he.run pins s σ H _ I h) fun u s1 hh => ?_)
  obtain ⟨x, H1, I1, rx, a, C, dd, fs, v, ex, T, hno, ea, ed, l, q⟩ := hh
  subst ex
  obtain rfl : u = Value.ref a := rx
  obtain ⟨oe, vs, ho, hz, hdt⟩ := exv_at I1.hok ea
  have hx : ObjOk X.prog X.w H1 s1.heap dd (.xd fs) := I1.hok dd _ ed
  obtain ⟨mA, hns, hr⟩ := hx
  obtain ⟨od, hod, hl⟩ := lookIn_ns hns
  obtain ⟨u, hu, ru⟩ := RelO.some_of (v := v) (o := mA n) (by rw [← l]; exact hr n)
  have J : PySem.W.InstAt s1.heap a oe C (some od) := ⟨ho, hz.1, by unfold PySem.W.notCls; rw [hdt] <;> rfl, by rw [hz.2]; exact hod⟩
  exact HandSPX.exc_get I1.kIn J T.ga T.gg T.exC (PySem.W.findObj_own T.hdC hno rfl (by rw [hl, hu])) (handed_of ru) ⟨v, H1, I1.tok _, ru, q⟩
end Lj
set_option Elab.async false
set_option linter.all false
set_option maxRecDepth 100000
set_option pp.maxSteps 500
set_option pp.deepTerms.threshold 8
set_option pp.deepTerms false
namespace Lj
open PySem PySem.Spec PyProof.Rows L2
/-! ### a step on registers alone -/
def aft (p : Int) (z : Str) (as r : List Int) (v : Int) : List Int := (stp p [v] ⟨1 :: r, 0, []⟩ (.op z as)).row.tail
theorem sv_cons (c : Int) (r : List Int) {x : Int} (a : Int) (h : 0 ≤ x) : sv (c :: r) (x + 1) a = c :: sv r x a := by
  unfold sv
  rw [show (x + 1).toNat = x.toNat + 1 by omega]
  rfl
theorem gt_cons (c : Int) (r : List Int) {x : Int} (h : 0 ≤ x) : gt (c :: r) (x + 1) = gt r x := by
  unfold gt
  rw [show (x + 1).toNat = x.toNat + 1 by omega]
  rfl
theorem gt_zero (c : Int) (r : List Int) : gt (c :: r) 0 = c := rfl
section
variable (p : Int) (r : List Int) (v : Int)
theorem aft_set {x c : Int} (h : 0 ≤ x) (c0 : 0 ≤ c) (c1 : c < p) : aft p "set" [x, c] r v = sv r x c := by
  unfold aft
  rw [stp_else (by decide) (by decide), ex_set, sv_cons _ _ _ h, gt_zero, Int.mul_one, Int.emod_eq_of_lt c0 c1]
  rfl
theorem aft_scale {x c : Int} (h : 0 ≤ x) : aft p "scale" [x, c] r v = sv r x (gt r x * c % p) := by
  unfold aft
  rw [stp_else (by decide) (by decide), ex_scale, sv_cons _ _ _ h, gt_cons _ _ h, Int.mul_comm]
  rfl
theorem aft_copy {x y : Int} (h : 0 ≤ x) (k : 0 ≤ y) : aft p "copy" [x, y] r v = sv r x (gt r y) := by
  unfold aft
  rw [stp_else (by decide) (by decide), ex_copy, sv_cons _ _ _ h, gt_cons _ _ k]
  rfl
theorem aft_swap {x y : Int} (h : 0 ≤ x) (k : 0 ≤ y) : aft p "swap" [x, y] r v = sv (sv r x (gt r y)) y (gt r x) := by
  unfold aft
  rw [stp_else (by decide) (by decide), ex_swap, sv_cons _ _ _ h, sv_cons _ _ _ k, gt_cons _ _ k, gt_cons _ _ h]
  rfl
theorem aft_add {x y c : Int} (h : 0 ≤ x) (k : 0 ≤ y) : aft p "add" [x, y, c] r v = sv r x ((gt r x + c * gt r y) % p) := by
  unfold aft
  rw [stp_else (by decide) (by decide), ex_add, sv_cons _ _ _ h, gt_cons _ _ k, gt_cons _ _ h]
  rfl
theorem aft_read {x : Int} (h : 0 ≤ x) : aft p "read" [x] r v = sv r x v := by
  unfold aft
  rw [stp_read]
  show (sv (1 :: r) (x + 1) v).tail = _
  rw [sv_cons _ _ _ h]
  rfl
theorem aft_write (x : Int) : aft p "write" [x] r v = r := by
  unfold aft
  rw [stp_write]
  rfl
end
/-- the constant in front stays -/
theorem stp_row {p n : Int} {is : List Int} {tk : Nat} {wr r : List Int} {z : Str} {as : List Int} (g : GoodOp p n z as) {v : Int} (hv : z = "read" → v = is.getD tk 0) : (stp p is ⟨1 :: r, tk, wr⟩ (.op z as)).row = 1 :: aft p z as r v := by
  rcases g with ⟨rfl | rfl, x, c, rfl, x0, x1, c0, c1⟩ | ⟨rfl | rfl, x, rfl, x0, x1⟩ | ⟨rfl | rfl, x, y, rfl, x0, x1, y0, y1, xy⟩ | ⟨rfl, x, y, c, rfl, x0, x1, y0, y1, xy, c0, c1⟩
  · rw [aft_set p r v x0 c0 c1, stp_else (by decide) (by decide), ex_set, sv_cons _ _ _ x0, gt_zero, Int.mul_one, Int.emod_eq_of_lt c0 c1]
  · rw [aft_scale p r v x0, stp_else (by decide) (by decide), ex_scale, sv_cons _ _ _ x0, gt_cons _ _ x0, Int.mul_comm]
  · rw [aft_read p r v x0, stp_read, hv rfl]
    exact sv_cons _ _ _ x0
  · rw [aft_write, stp_write]
  · rw [aft_copy p r v x0 y0, stp_else (by decide) (by decide), ex_copy, sv_cons _ _ _ x0, gt_cons _ _ y0]
  · rw [aft_swap p r v x0 y0, stp_else (by decide) (by decide), ex_swap, sv_cons _ _ _ x0, sv_cons _ _ _ y0, gt_cons _ _ y0, gt_cons _ _ x0]
  · rw [aft_add p r v x0 y0, stp_else (by decide) (by decide), ex_add, sv_cons _ _ _ x0, gt_cons _ _ y0, gt_cons _ _ x0]
theorem rns_row {p n : Int} {is : List Int} : ∀ {E : List Tr} {s : RS}, Goods p n E → (∃ r, s.row = 1 :: r) → ∃ r, (rns p is s E).row = 1 :: r
  | [], _, _, h => h
  | t :: E, s, g, ⟨r, h⟩ => by
    obtain ⟨w, as, rfl, go⟩ := g t List.mem_cons_self
    obtain ⟨row, tk, wr⟩ := s
    dsimp only at h
    subst h
    exact rns_row (E := E) (fun u m => g u (List.mem_cons_of_mem _ m)) ⟨_, stp_row (v := is.getD tk 0) go fun _ => rfl⟩
theorem stp_at {p : Int} {is : List Int} {s : RS} {z : Str} {as : List Int} : (stp p is s (.op z as)).tk = s.tk + (if z = "read" then 1 else 0) := by
  by_cases h1 : z = "read"
  · subst h1
    rw [stp_read, if_pos rfl]
  · rw [if_neg h1]
    by_cases h2 : z = "write"
    · subst h2
      rw [stp_write]
      rfl
    · rw [stp_else h1 h2]
      rfl
theorem stp_out {p : Int} {is : List Int} {s : RS} {z : Str} {as : List Int} : (stp p is s (.op z as)).wr = s.wr ++ (if z = "write" then [gt s.row (as.headD 0 + 1)] else []) := by
  by_cases h1 : z = "read"
  · subst h1
    rw [stp_read, if_neg (by decide), List.append_nil]
  · by_cases h2 : z = "write"
    · subst h2
      rw [stp_write, if_pos rfl]
    · rw [stp_else h1 h2, if_neg h2, List.append_nil]
/-! ### drawn programs, shown: finer -/
def sbL : Nat → Nat → Nat
  | 0, _ => 20000
  | d + 1, l => 20000 + (l / 2) * (sbL d (l / 2) + 2)
theorem sbL_ge : ∀ d l, 20000 ≤ sbL d l
  | 0, _ => Nat.le_refl _
  | d + 1, l => by rw [sbL]; omega
mutual
theorem Tr.made_showL {G : Str → List Int → Prop} {R : Int → Prop} (hG : ∀ w as, G w as → Short w as) (hR : ∀ k, R k → k.natAbs < 2 ^ 1000) : ∀ (t : Tr) (l d : Nat), t.made G R l d →
    t.datT.showable = true ∧ t.datT.hasDict = false ∧ t.datT.depth ≤ 2 * d + 1 ∧ t.datT.shown.length ≤ sbL d l
  | .op w as, l, d, h => by
    rw [Tr.made] at h
    obtain ⟨b1, b2, b3, b4⟩ := Tr.made_show (G := Short) (R := fun _ => False) (fun _ _ h => h) (fun _ h => h.elim) (.op w as) 0 0 (by decide) (by rw [Tr.made]; exact hG w as h)
    have := sbL_ge d l
    have e : sb 0 = 20000 := rfl
    exact ⟨b1, b2, by omega, by omega⟩
  | .loop k b, l, 0, h => by rw [Tr.made] at h; exact h.elim
  | .loop k b, l, d + 1, h => by
    rw [Tr.made] at h
    obtain ⟨b1, b2, b3, b4, b5⟩ := mades_showL hG hR b (l / 2) d h.2.2
    obtain ⟨i1, i2, i3, i4⟩ := leaf_int (log_of (hR k h.1) (by decide) (by decide))
    have lp : (PyData.shown (.str "loop")).length ≤ 20 := by decide +kernel
    have y := PySem.tupleText_len_le (PyData.shownAll (datTs b))
    have hb := h.2.1
    rw [Tr.datT]
    refine ⟨by rw [PyData.showable, PyData.showableAll, PyData.showable, PyData.showableAll, i1, PyData.showableAll, PyData.showable, b1, PyData.showableAll]; rfl, by rw [PyData.hasDict, PyData.hasDictAll, PyData.hasDict, PyData.hasDictAll, i2, PyData.hasDictAll, PyData.hasDict, b2, PyData.hasDictAll]; rfl, ?_, ?_⟩
    · rw [PyData.depth, PyData.depthAll, PyData.depth, PyData.depthAll, i3, PyData.depthAll, PyData.depth, PyData.depthAll]
      omega
    have z := PySem.tupleText_len_le [PyData.shown (.str "loop"), PyData.shown (.int k), PyData.shown (.tuple (datTs b))]
    have ez : (PyData.shown (.tuple (datTs b))) = tupleText (PyData.shownAll (datTs b)) := by rw [PyData.shown]
    rw [PyData.shown, PyData.shownAll, PyData.shownAll, PyData.shownAll, PyData.shownAll]
    rw [List.map_cons, List.map_cons, List.map_cons, List.map_nil, List.sum_cons, List.sum_cons, List.sum_cons, List.sum_nil, ez] at z
    rw [show ([PyData.shown (.str "loop"), PyData.shown (.int k), tupleText (PyData.shownAll (datTs b))] : List Str).length = 3 from rfl] at z
    rw [ez, sbL]
    have m1 : b.length * sbL d (l / 2) ≤ (l / 2) * sbL d (l / 2) := Nat.mul_le_mul_right _ hb
    have m2 : (l / 2) * (sbL d (l / 2) + 2) = (l / 2) * sbL d (l / 2) + (l / 2) * 2 := Nat.mul_add _ _ _
    omega
theorem mades_showL {G : Str → List Int → Prop} {R : Int → Prop} (hG : ∀ w as, G w as → Short w as) (hR : ∀ k, R k → k.natAbs < 2 ^ 1000) : ∀ (b : List Tr) (l d : Nat), mades G R b l d →
    PyData.showableAll (datTs b) = true ∧ PyData.hasDictAll (datTs b) = false ∧ PyData.depthAll (datTs b) ≤ 2 * d + 1 ∧ ((PyData.shownAll (datTs b)).map (·.length)).sum ≤ b.length * sbL d l ∧ (PyData.shownAll (datTs b)).length = b.length
  | [], l, d, _ => by
    rw [datTs]
    exact ⟨by rw [PyData.showableAll], by rw [PyData.hasDictAll], by rw [PyData.depthAll]; exact Nat.zero_le _, by rw [PyData.shownAll]; exact Nat.zero_le _, by rw [PyData.shownAll]; rfl⟩
  | t :: r, l, d, h => by
    rw [mades] at h
    obtain ⟨a1, a2, a3, a4⟩ := Tr.made_showL hG hR t l d h.1
    obtain ⟨b1, b2, b3, b4, b5⟩ := mades_showL hG hR r l d h.2
    rw [datTs]
    refine ⟨by rw [PyData.showableAll, a1, b1]; rfl, by rw [PyData.hasDictAll, a2, b2]; rfl, by rw [PyData.depthAll]; omega, ?_, by rw [PyData.shownAll, List.length_cons, b5, List.length_cons]⟩
    rw [PyData.shownAll, List.map_cons, List.sum_cons, List.length_cons, Nat.succ_mul]
    omega
end
/-- a program with a history, shown -/
def tripD (b : List Tr) (h : List Int × List Int) : PyData := .tuple [.tuple (datTs b), .tuple (h.1.map PyData.int), .tuple (h.2.map PyData.int)]
theorem trip_show {b : List Tr} {h : List Int × List Int} {d N : Nat} (s : PyData.showableAll (datTs b) = true ∧ PyData.hasDictAll (datTs b) = false ∧ PyData.depthAll (datTs b) ≤ d ∧ ((PyData.shownAll (datTs b)).map (·.length)).sum ≤ N ∧ (PyData.shownAll (datTs b)).length = b.length) (hd : d ≤ 20) (hN : N ≤ 5000000) (bl : b.length ≤ 1000)
    (h1 : ∀ n ∈ h.1, n.natAbs < 2 ^ 1000) (h2 : ∀ n ∈ h.2, n.natAbs < 2 ^ 1000) (l1 : h.1.length ≤ 2000) (l2 : h.2.length ≤ 2000) : (tripD b h).showable = true ∧ (tripD b h).hasDict = false ∧ (tripD b h).depth ≤ 64 ∧ (tripD b h).shown.length ≤ sizeLine := by
  obtain ⟨a1, a2, a3, a4⟩ := leafs_tup h1
  obtain ⟨b1, b2, b3, b4⟩ := leafs_tup h2
  obtain ⟨s1, s2, s3, s4, s5⟩ := s
  unfold tripD
  have y := PySem.tupleText_len_le (PyData.shownAll (datTs b))
  refine ⟨by rw [PyData.showable, PyData.showableAll, PyData.showableAll, PyData.showableAll, PyData.showableAll, a1, b1, PyData.showable, s1]; rfl, by rw [PyData.hasDict, PyData.hasDictAll, PyData.hasDictAll, PyData.hasDictAll, PyData.hasDictAll, a2, b2, PyData.hasDict, s2]; rfl, ?_, ?_⟩
  · rw [PyData.depth, PyData.depthAll, PyData.depthAll, PyData.depthAll, PyData.depthAll, a3, b3, PyData.depth]
    omega
  rw [PyData.shown, PyData.shownAll, PyData.shownAll, PyData.shownAll, PyData.shownAll, sizeLine_eq]
  have ez : (PyData.shown (.tuple (datTs b))) = tupleText (PyData.shownAll (datTs b)) := by rw [PyData.shown]
  have z := PySem.tupleText_len_le [PyData.shown (.tuple (datTs b)), PyData.shown (.tuple (h.1.map PyData.int)), PyData.shown (.tuple (h.2.map PyData.int))]
  rw [List.map_cons, List.map_cons, List.map_cons, List.map_nil, List.sum_cons, List.sum_cons, List.sum_cons, List.sum_nil] at z
  rw [show ([PyData.shown (.tuple (datTs b)), PyData.shown (.tuple (h.1.map PyData.int)), PyData.shown (.tuple (h.2.map PyData.int))] : List Str).length = 3 from rfl] at z
  rw [ez] at z ⊢
  omega
theorem pairD_shaped (h : List Int × List Int) : SeqAt.shaped (pairD h) = true := by
  unfold SeqAt.shaped pairD
  simp only [PyData.canLay0, PyData.canLayAll0, lay_ints, PyData.depth, PyData.depthAll, depth_ints]
  rfl
end Lj
set_option Elab.async false
set_option linter.all false
set_option maxRecDepth 100000
set_option pp.maxSteps 500
set_option pp.deepTerms.threshold 8
set_option pp.deepTerms false
namespace K12
open PySem PySem.Spec PyProof.Rows L2 Lj
def topS (i : Nat) : Stmt := PySem.Challenge.pw_leastjournal_k12_plain_runs.main.body.getD i (.Pass ⟨0, 0, 0, 0⟩)
abbrev s_wall : Stmt := topS 0
theorem sc_wall : FnScope ["k"] ["k"] (defScope s_wall) := ⟨rfl, rfl, rfl, by decide +kernel, rfl, by decide +kernel, by decide +kernel⟩
abbrev sStep_count : Stmt := topS 8
theorem scStep_count : FnScope ["program", "instruction"] ["program"] (defScope sStep_count) := ⟨rfl, rfl, rfl, by decide +kernel, rfl, by decide +kernel, by decide +kernel⟩
abbrev sLength : Stmt := topS 9
theorem scLength : FnScope ["instruction"] ["instruction"] (defScope sLength) := ⟨rfl, rfl, rfl, by decide +kernel, rfl, by decide +kernel, by decide +kernel⟩
abbrev sPexecuted : Stmt := topS 11
theorem scPexecuted : FnScope ["p", "instruction", "row", "after", "word", "x", "y"] ["p", "instruction", "row"] (defScope sPexecuted) := ⟨rfl, rfl, rfl, by decide +kernel, rfl, by decide +kernel, by decide +kernel⟩
abbrev sRun : Stmt := topS 15
theorem scRun : FnScope ["p", "program", "registers", "inputs", "steps", "runner", "instruction"] ["p", "program", "registers", "inputs"] (defScope sRun) := ⟨rfl, rfl, rfl, by decide +kernel, rfl, by decide +kernel, by decide +kernel⟩
abbrev sUnrolled : Stmt := topS 16
theorem scUnrolled : FnScope ["program", "steps", "instruction"] ["program"] (defScope sUnrolled) := ⟨rfl, rfl, rfl, by decide +kernel, rfl, by decide +kernel, by decide +kernel⟩
abbrev sUrn : Stmt := topS 18
theorem scUrn : FnScope ["_law_script", "_law_k", "_law_cell", "_law_own"] ["_law_script", "_law_k"] (defScope sUrn) := ⟨rfl, rfl, rfl, by decide +kernel, rfl, by decide +kernel, by decide +kernel⟩
abbrev sTake : Stmt := topS 19
theorem scTake : FnScope ["_law_urn_here", "_law_below", "_law_digit", "_law_mixed"] ["_law_urn_here", "_law_below"] (defScope sTake) := ⟨rfl, rfl, rfl, by decide +kernel, rfl, by decide +kernel, by decide +kernel⟩
abbrev sOf : Stmt := topS 20
theorem scOf : FnScope ["_law_urn_here", "_law_items"] ["_law_urn_here", "_law_items"] (defScope sOf) := ⟨rfl, rfl, rfl, by decide +kernel, rfl, by decide +kernel, by decide +kernel⟩
abbrev sPrime : Stmt := topS 21
theorem scPrime : FnScope ["_law_urn_here"] ["_law_urn_here"] (defScope sPrime) := ⟨rfl, rfl, rfl, by decide +kernel, rfl, by decide +kernel, by decide +kernel⟩
abbrev sItem : Stmt := topS 22
theorem scItem : FnScope ["_law_urn_here", "_law_q", "_law_n", "_law_words_here", "_law_word", "_law_x", "_law_c", "_law_y"] ["_law_urn_here", "_law_q", "_law_n", "_law_words_here"] (defScope sItem) := ⟨rfl, rfl, rfl, by decide +kernel, rfl, by decide +kernel, by decide +kernel⟩
abbrev sBody : Stmt := topS 23
theorem scBody : FnScope ["_law_urn_here", "_law_q", "_law_n", "_law_words_here", "_law_length", "_law_deep", "_law_rounds", "_law_found", "_law_turn", "_law_inner"] ["_law_urn_here", "_law_q", "_law_n", "_law_words_here", "_law_length", "_law_deep", "_law_rounds"] (defScope sBody) := ⟨rfl, rfl, rfl, by decide +kernel, rfl, by decide +kernel, by decide +kernel⟩
abbrev sWords : Stmt := topS 24
theorem scWords : FnScope [] [] (defScope sWords) := ⟨rfl, rfl, rfl, by decide +kernel, rfl, by decide +kernel, by decide +kernel⟩
abbrev sExecuted : Stmt := topS 25
theorem scExecuted : FnScope ["_law_tree", "_law_found", "_law_item_here", "_law_body_here", "_law_turn"] ["_law_tree"] (defScope sExecuted) := ⟨rfl, rfl, rfl, by decide +kernel, rfl, by decide +kernel, by decide +kernel⟩
abbrev sAfter : Stmt := topS 26
theorem scAfter : FnScope ["_law_q", "_law_item_here", "_law_regs", "_law_value", "_law_found", "_law_x"] ["_law_q", "_law_item_here", "_law_regs", "_law_value"] (defScope sAfter) := ⟨rfl, rfl, rfl, by decide +kernel, rfl, by decide +kernel, by decide +kernel⟩
abbrev sTuple : Stmt := topS 27
theorem scTuple : FnScope ["_law_urn_here", "_law_q", "_law_count", "_law_turn"] ["_law_urn_here", "_law_q", "_law_count"] (defScope sTuple) := ⟨rfl, rfl, rfl, by decide +kernel, rfl, by decide +kernel, by decide +kernel⟩
abbrev sLrun : Stmt := topS 28
theorem scLrun : FnScope ["_law_q", "_law_tree", "_law_regs", "_law_feed", "_law_here", "_law_outputs", "_law_at", "_law_item_here"] ["_law_q", "_law_tree", "_law_regs", "_law_feed"] (defScope sLrun) := ⟨rfl, rfl, rfl, by decide +kernel, rfl, by decide +kernel, by decide +kernel⟩
abbrev sSize : Stmt := topS 29
theorem scSize : FnScope ["_law_tree", "_law_caught", "e"] ["_law_tree"] (defScope sSize) := ⟨rfl, rfl, rfl, by decide +kernel, rfl, by decide +kernel, by decide +kernel⟩
abbrev sEdges : Stmt := topS 30
theorem scEdges : FnScope ["_law_urn_here", "_law_pair", "_law_many"] ["_law_urn_here"] (defScope sEdges) := ⟨rfl, rfl, rfl, by decide +kernel, rfl, by decide +kernel, by decide +kernel⟩
abbrev sRight : Stmt := topS 31
theorem scRight : FnScope ["_law_urn_here", "_law_q", "_law_n", "_law_tree", "_law_count", "_law_registers_here", "_law_fed", "_law_held", "_law_due", "_law_told", "_law_item_here"] ["_law_urn_here"] (defScope sRight) := ⟨rfl, rfl, rfl, by decide +kernel, rfl, by decide +kernel, by decide +kernel⟩
abbrev sLaw : Stmt := topS 32
theorem scLaw : FnScope ["_law_script", "_law_k", "_law_urn_here", "_law_turn"] ["_law_script"] (defScope sLaw) := ⟨rfl, rfl, rfl, by decide +kernel, rfl, by decide +kernel, by decide +kernel⟩
abbrev sRinit : Stmt := inClass (topS 14) 0
theorem scRinit : FnScope ["self", "p", "registers", "inputs"] ["self", "p", "registers", "inputs"] (defScope sRinit) := ⟨rfl, rfl, rfl, by decide +kernel, rfl, by decide +kernel, by decide +kernel⟩
abbrev sRperform : Stmt := inClass (topS 14) 1
theorem scRperform : FnScope ["self", "instruction", "place"] ["self", "instruction"] (defScope sRperform) := ⟨rfl, rfl, rfl, by decide +kernel, rfl, by decide +kernel, by decide +kernel⟩
abbrev sEL : Stmt := inClass (topS 5) 0
section
variable {P : Program} {w : World} {K : PySem.W.Frag} {mg : Str → Option Value} {base : Heap}
theorem take_all {α : Type} (b : List α) : b.take b.length = b := List.take_length
/-! ### step_count and length -/
theorem ok_length (M : Bl mg) (F : At K mg "length" sLength ["instruction"]) {n k : Nat} (h : Has P w K mg base k "step_count" ["program"] (spTI K (okB n) lens)) :
    Has P w K mg base (k + 1) "length" ["instruction"] (spII K (fun t => okB (n + 1) [t]) Tr.len) := by
  obtain ⟨fS, fdS, cStep_count⟩ := h
  refine Has.by F scLength (fun vs H Q E h => ?_) (fun f cdv A out s H vs Q E hg hr h => ?_)
  · obtain ⟨v, t, rfl, _⟩ := h
    rfl
  obtain ⟨v, t, rfl, hT, ok, q⟩ := h
  refine ⟨_, (pss_cons (ps_if (pt_cmpR op_eq (pe_ix ix_tup (pv 0) pe_int (fun _ _ => rfl)) pe_str (nomark _))
    (pss_one (ps_ret (pe_op op_mul (pe_ix ix_tup (pv 0) pe_int (fun _ _ => rfl)) (pe_cal cStep_count hg hr (by rfl) (pa_cons (pe_ix ix_tup (pv 0) pe_int (fun _ _ => rfl)) pa_nil)))))
    pss_nil)
  (pss_one (ps_ret pe_int))), ?_⟩
  cases t with
  | op u as =>
    rw [TrAt] at hT
    obtain ⟨a, rfl, sq⟩ := hT
    refine ⟨_, rfl, a, _, 0, .str u, rfl, rfl, sq, at0, rfl, _, rfl, iteN (fun e => okB_op (i := 0) ok rfl (V.str.inj e)) ?_⟩
    exact q H (Same.refl H)
  | loop c b =>
    rw [TrAt] at hT
    obtain ⟨a, d, us, rfl, sq, sq2, r⟩ := hT
    obtain ⟨c0, c1, ok2⟩ := okB_loop (i := 0) ok rfl
    refine ⟨_, rfl, a, _, 0, .str "loop", rfl, rfl, sq, rfl, rfl, _, rfl, iteP rfl ?_⟩
    refine ⟨_, rfl, a, _, 1, .int c, rfl, rfl, sq, rfl, _, rfl, a, _, 2, .ref d, rfl, rfl, sq, rfl, _, b, rfl, ⟨d, us, rfl, sq2, r⟩, ok2, fun H' sm => ?_⟩
    exact ⟨c, _, rfl, rfl, .inl ⟨by omega, by omega⟩, q H' sm⟩
theorem ok_step (M : Bl mg) (F : At K mg "step_count" sStep_count ["program"]) {n k : Nat} (h : Has P w K mg base k "length" ["instruction"] (spII K (fun t => okB (n + 1) [t]) Tr.len)) :
    Has P w K mg base (k + 1) "step_count" ["program"] (spTI K (okB (n + 1)) lens) := by
  obtain ⟨fS, fdS, cLength⟩ := h
  refine Has.by F scStep_count (fun vs H Q E h => ?_) (fun f cdv A out s H vs Q E hg hr h => ?_)
  · obtain ⟨v, t, rfl, _⟩ := h
    rfl
  obtain ⟨v, b, rfl, ⟨c, us, rfl, sq, r⟩, ok, q⟩ := h
  refine ⟨_, (pss_one (ps_ret (pe_callB (cr_sum rfl) (by rfl) M.sum_ (by decide +kernel) (pa_cons (pe_lc (own := [("instruction", 1)]) (g := gName 1) (by rfl) scStep_count.nd (pi_tup (pv 0)) (blkOk_by (own := [("instruction", 1)]) (N := ["program", "instruction"]) (sc := defScope sStep_count) (by decide +kernel)) (fun _ _ _ _ _ => (pg_name (i := 1) scStep_count.nd rfl (.inl rfl))) (fun _ _ _ _ _ => pts_nil) (fun _ _ _ _ _ => (pe_cal cLength hg hr (by rfl) (pa_cons (pv 1) pa_nil)))) pa_nil)))), ?_⟩
  refine ⟨_, rfl, c, rfl, ⟨_, sq⟩, fun D nD => ?_⟩
  refine lc_tup (xs := us) (fun i H' => H' D = some (.lst (((b.take i).map Tr.len).map V.int)) ∧ Same H H') ⟨upd_same, same_new nD⟩ (fun i H' _ h => (Kt.same h.2).sq sq) ?_ ?_
  · rintro i x H' hx ⟨e1, e2⟩
    obtain ⟨t, ht, hT⟩ := r.get hx
    refine ⟨rfl, ?_⟩
    refine ⟨_, rfl, x, t, rfl, TrAt.kt (Kt.same e2) t x hT, ⟨by rw [wfs, wfs]; exact ⟨wfs_get ok.1 ht, trivial⟩, by show 1 ≤ 1000; decide⟩, fun H2 sm => ?_⟩
    refine ⟨_, sm _ _ e1, ?_, ?_, same_upd (e2.trans sm) nD⟩
    · rw [List.length_map, List.length_map, List.length_take]
      exact small1000 (Nat.le_trans (Nat.min_le_right _ _) ok.2)
    · rw [upd_same, map_next ht, List.map_append]
      rfl
  · rintro H' ⟨e1, e2⟩
    rw [r.length, take_all] at e1
    refine ⟨D, _, rfl, SqL.of e1, ?_⟩
    rw [← lens_map]
    exact q H' e2
theorem ok_steps (M : Bl mg) (FL : At K mg "length" sLength ["instruction"]) (FS : At K mg "step_count" sStep_count ["program"]) : ∀ n, Has P w K mg base (2 * n) "step_count" ["program"] (spTI K (okB n) lens)
  | 0 => Has.none FS fun vs H Q E ⟨_, _, _, _, h, _⟩ => h
  | n + 1 => ok_step M FS (ok_length M FL (ok_steps M FL FS n))
end
section
variable {P : Program} {w : World} {K : PySem.W.Frag} {mg : Str → Option Value} {base : Heap}
/-! ### executed -/
theorem ok_executed {f : Addr} {fd : FuncData} {k : Nat} (F : Fun K "executed" "executed" sPexecuted f fd) (M : Bl mg) : FnOk P w K mg base CX0 (k + 1) f fd ["p", "instruction", "row"] (spEx K) := by
  refine F.ok scPexecuted (fun vs H Q E h => ?_) (fun cdv A outer s H vs Q E hr h => ?_)
  · obtain ⟨p, n, z, as, v, l, r, rfl, _⟩ := h
    rfl
  obtain ⟨p, n, z, as, v, l, r, rfl, hT, go, nr, p0, p1, sq, rl, q⟩ := h
  rw [TrAt] at hT
  obtain ⟨a, rfl, sa⟩ := hT
  refine ⟨_, (pss_cons (ps_set (i := 3) scPexecuted.nd rfl (.inl rfl) (pe_callTy call_list_of (by rfl) M.list_ (by decide +kernel) (pa_cons (pv 2) pa_nil)))
  (pss_cons (ps_set (i := 4) scPexecuted.nd rfl (.inl rfl) (pe_ix ix_tup (pv 1) pe_int (fun _ _ => rfl)))
  (pss_cons (ps_set (i := 5) scPexecuted.nd rfl (.inl rfl) (pe_op op_add (pe_ix ix_tup (pv 1) pe_int (fun _ _ => rfl)) pe_int))
  (pss_cons (ps_if (pt_cmpR op_eq (pv 4) pe_str (nomark _))
    (pss_one (ps_asg (pe_op op_mod (pe_op op_mul (pe_ix ix_tup (pv 1) pe_int (fun _ _ => rfl)) (pe_ix ix_list (pv 2) pe_int (fun _ _ => rfl))) (pv 0)) (pg_sub (pv 3) (pv 5) set_list)))
    (pss_one (ps_if (pt_cmpR op_eq (pv 4) pe_str (nomark _))
    (pss_one (ps_asg (pe_op op_mod (pe_op op_mul (pe_ix ix_tup (pv 1) pe_int (fun _ _ => rfl)) (pe_ix ix_list (pv 2) (pv 5) (fun _ _ => rfl))) (pv 0)) (pg_sub (pv 3) (pv 5) set_list)))
    (pss_one (ps_if (pt_cmpR op_eq (pv 4) pe_str (nomark _))
    (pss_one (ps_asg (pe_ix ix_list (pv 2) (pe_op op_add (pe_ix ix_tup (pv 1) pe_int (fun _ _ => rfl)) pe_int) (fun _ _ => rfl)) (pg_sub (pv 3) (pv 5) set_list)))
    (pss_one (ps_if (pt_cmpR op_eq (pv 4) pe_str (nomark _))
    (pss_one (ps_asg (pe_op op_mod (pe_op op_add (pe_ix ix_list (pv 2) (pv 5) (fun _ _ => rfl)) (pe_op op_mul (pe_ix ix_tup (pv 1) pe_int (fun _ _ => rfl)) (pe_ix ix_list (pv 2) (pe_op op_add (pe_ix ix_tup (pv 1) pe_int (fun _ _ => rfl)) pe_int) (fun _ _ => rfl)))) (pv 0)) (pg_sub (pv 3) (pv 5) set_list)))
    (pss_one (ps_if (pt_cmpR op_eq (pv 4) pe_str (nomark _))
    (pss_cons (ps_set (i := 6) scPexecuted.nd rfl (.inl rfl) (pe_op op_add (pe_ix ix_tup (pv 1) pe_int (fun _ _ => rfl)) pe_int))
  (pss_one (ps_asg (pe_tup (pa_cons (pe_ix ix_list (pv 2) (pv 6) (fun _ _ => rfl)) (pa_cons (pe_ix ix_list (pv 2) (pv 5) (fun _ _ => rfl)) pa_nil))) (pg_tup rfl (pgs_cons (pg_sub (pv 3) (pv 5) set_list) (pgs_cons (pg_sub (pv 3) (pv 6) set_list) pgs_nil))))))
    pss_nil)))))))))
  (pss_one (ps_ret (pv 3))))))), ?_⟩
  refine ⟨_, rfl, l, _, rfl, .inl sq, fun m nm => ?_⟩
  have sm : Same H (upd H m (.lst (r.map V.int))) := same_new nm
  have sa := (Kt.same sm).sq sa
  have sq := sm.seq sq
  have pp : (0 : Int) < p := by omega
  have ln : (r.map V.int).length = r.length := List.length_map _
  have fin : ∀ r' : List Int, exRow p z as r = r' → Q (.ref m) (upd (upd H m (.lst (r.map V.int))) m (.lst (r'.map V.int))) := fun r' e => q _ m (same_upd sm nm) nm (by rw [upd_same, e])
  refine ⟨_, rfl, a, _, 0, .str z, rfl, rfl, sa, at0, ?_⟩
  rcases go with ⟨rfl | rfl, x, c, rfl, x0, x1, c0, c1⟩ | ⟨rfl | rfl, x, rfl, x0, x1⟩ | ⟨rfl | rfl, x, y, rfl, x0, x1, y0, y1, xy⟩ | ⟨rfl, x, y, c, rfl, x0, x1, y0, y1, xy, c0, c1⟩
  · -- set
    refine ⟨_, rfl, a, _, 1, .int x, rfl, rfl, sa, rfl, _, _, rfl, rfl, ?_⟩
    refine ⟨_, rfl, rfl, _, rfl, iteP rfl ?_⟩
    refine ⟨_, rfl, a, _, 2, .int c, rfl, rfl, sa, rfl, _, rfl, l, _, 0, _, rfl, rfl, sq, at_gt (by decide) (by omega), c, _, rfl, rfl, .inl ⟨by omega, by omega⟩, _, rfl, _, p, rfl, rfl, pp, ?_⟩
    refine ⟨_, rfl, _, rfl, m, _, x + 1, (x + 1).toNat, rfl, rfl, upd_same, ix_sv (by omega) (by omega), ?_⟩
    rw [map_sv]
    exact ⟨_, rfl, fin _ (ex_set _ _ _ _)⟩
  · -- scale
    refine ⟨_, rfl, a, _, 1, .int x, rfl, rfl, sa, rfl, _, _, rfl, rfl, ?_⟩
    refine ⟨_, rfl, rfl, _, rfl, iteN (by decide) ?_⟩
    refine ⟨_, rfl, rfl, _, rfl, iteP rfl ?_⟩
    refine ⟨_, rfl, a, _, 2, .int c, rfl, rfl, sa, rfl, _, rfl, _, rfl, l, _, x + 1, _, rfl, rfl, sq, at_gt (by omega) (by omega), c, _, rfl, rfl, .inl ⟨by omega, by omega⟩, _, rfl, _, p, rfl, rfl, pp, ?_⟩
    refine ⟨_, rfl, _, rfl, m, _, x + 1, (x + 1).toNat, rfl, rfl, upd_same, ix_sv (by omega) (by omega), ?_⟩
    rw [map_sv]
    exact ⟨_, rfl, fin _ (ex_scale _ _ _ _)⟩
  · exact absurd rfl nr
  · -- write
    refine ⟨_, rfl, a, _, 1, .int x, rfl, rfl, sa, rfl, _, _, rfl, rfl, ?_⟩
    refine ⟨_, rfl, rfl, _, rfl, iteN (by decide) ?_⟩
    refine ⟨_, rfl, rfl, _, rfl, iteN (by decide) ?_⟩
    refine ⟨_, rfl, rfl, _, rfl, iteN (by decide) ?_⟩
    refine ⟨_, rfl, rfl, _, rfl, iteN (by decide) ?_⟩
    refine ⟨_, rfl, rfl, _, rfl, iteN (by decide) ?_⟩
    exact ⟨_, rfl, q _ m sm nm upd_same⟩
  · -- copy
    refine ⟨_, rfl, a, _, 1, .int x, rfl, rfl, sa, rfl, _, _, rfl, rfl, ?_⟩
    refine ⟨_, rfl, rfl, _, rfl, iteN (by decide) ?_⟩
    refine ⟨_, rfl, rfl, _, rfl, iteN (by decide) ?_⟩
    refine ⟨_, rfl, rfl, _, rfl, iteP rfl ?_⟩
    refine ⟨_, rfl, _, rfl, a, _, 2, .int y, rfl, rfl, sa, rfl, _, _, rfl, rfl, l, _, y + 1, _, rfl, rfl, sq, at_gt (by omega) (by omega), ?_⟩
    refine ⟨_, rfl, _, rfl, m, _, x + 1, (x + 1).toNat, rfl, rfl, upd_same, ix_sv (by omega) (by omega), ?_⟩
    rw [map_sv]
    exact ⟨_, rfl, fin _ (ex_copy _ _ _ _)⟩
  · -- swap
    refine ⟨_, rfl, a, _, 1, .int x, rfl, rfl, sa, rfl, _, _, rfl, rfl, ?_⟩
    refine ⟨_, rfl, rfl, _, rfl, iteN (by decide) ?_⟩
    refine ⟨_, rfl, rfl, _, rfl, iteN (by decide) ?_⟩
    refine ⟨_, rfl, rfl, _, rfl, iteN (by decide) ?_⟩
    refine ⟨_, rfl, rfl, _, rfl, iteN (by decide) ?_⟩
    refine ⟨_, rfl, rfl, _, rfl, iteP rfl ?_⟩
    refine ⟨_, rfl, a, _, 2, .int y, rfl, rfl, sa, rfl, _, _, rfl, rfl, ?_⟩
    refine ⟨_, rfl, _, rfl, l, _, y + 1, _, rfl, rfl, sq, at_gt (by omega) (by omega), _, rfl, _, rfl, l, _, x + 1, _, rfl, rfl, sq, at_gt (by omega) (by omega), ?_⟩
    refine ⟨(by show 2 ≤ sizeLine; decide), fun t nt => ?_⟩
    have nmt : m ≠ t := ne_of_none upd_same nt
    have st : Same (upd H m (.lst (r.map V.int))) (upd (upd H m (.lst (r.map V.int))) t (.tup [.int (gt r (y + 1)), .int (gt r (x + 1))])) := same_new nt
    refine ⟨t, _, rfl, SqT.of upd_same, rfl, _, _, rfl, ?_⟩
    refine ⟨_, rfl, _, rfl, m, _, x + 1, (x + 1).toNat, rfl, rfl, st _ _ upd_same, ix_sv (by omega) (by omega), ?_⟩
    rw [map_sv]
    refine ⟨_, _, rfl, _, rfl, _, rfl, m, _, y + 1, (y + 1).toNat, rfl, rfl, upd_same, ?_, ?_⟩
    · rw [List.length_map, sv_len]
      exact ix_sv (by omega) (by omega)
    rw [map_sv]
    refine ⟨rfl, _, rfl, q _ m (same_upd (same_upd (sm.trans st) nm) nm) nm ?_⟩
    rw [upd_same, ex_swap]
  · -- add
    refine ⟨_, rfl, a, _, 1, .int x, rfl, rfl, sa, rfl, _, _, rfl, rfl, ?_⟩
    refine ⟨_, rfl, rfl, _, rfl, iteN (by decide) ?_⟩
    refine ⟨_, rfl, rfl, _, rfl, iteN (by decide) ?_⟩
    refine ⟨_, rfl, rfl, _, rfl, iteN (by decide) ?_⟩
    refine ⟨_, rfl, rfl, _, rfl, iteP rfl ?_⟩
    refine ⟨_, rfl, _, rfl, l, _, x + 1, _, rfl, rfl, sq, at_gt (by omega) (by omega), _, rfl, a, _, 3, .int c, rfl, rfl, sa, rfl, _, rfl, _, rfl, a, _, 2, .int y, rfl, rfl, sa, rfl, _, _, rfl, rfl, l, _, y + 1, _, rfl, rfl, sq, at_gt (by omega) (by omega), c, _, rfl, rfl, .inl ⟨by omega, by omega⟩, _, _, rfl, rfl, _, rfl, _, p, rfl, rfl, pp, ?_⟩
    refine ⟨_, rfl, _, rfl, m, _, x + 1, (x + 1).toNat, rfl, rfl, upd_same, ix_sv (by omega) (by omega), ?_⟩
    rw [map_sv]
    exact ⟨_, rfl, fin _ (ex_add _ _ _ _ _)⟩
end
end K12
set_option Elab.async false
set_option linter.all false
set_option maxRecDepth 100000
set_option pp.maxSteps 500
set_option pp.deepTerms.threshold 8
set_option pp.deepTerms false
namespace K12
open PySem PySem.Spec PyProof.Rows L2 Lj
section
variable {P : Program} {w : World} {K : PySem.W.Frag} {mg : Str → Option Value} {base : Heap}
theorem neL {c A B : Prop} [Decidable c] (h : c) (b : B) : if (!decide c) = true then A else B := by
  rw [decide_eq_true h]
  exact b
/-! ### the runner -/
theorem ok_rinit {f C : Addr} {fd : FuncData} {k : Nat} (F : Fun K "__init__" "Runner.__init__" sRinit f fd) (T : RTxt K mg C) : FnOk P w K mg base CX0 (k + 1) f fd ["self", "p", "registers", "inputs"] (spRInit K C) := by
  refine F.ok scRinit (fun vs H Q E h => ?_) (fun cdv A outer s H vs Q E hr h => ?_)
  · obtain ⟨_, _, _, _, _, _, _, rfl, _⟩ := h
    rfl
  obtain ⟨H0, x, dx, rg, g, p, rs, rfl, s0, nx, hx, sq, rl, q⟩ := h
  refine ⟨_, (pss_cons (ps_fld (pv 0) (pv 1) rfl)
  (pss_cons (ps_fld (pv 0) (pe_lst (pa_cons pe_int (StX.pa_star (pv 2) pa_nil))) rfl)
  (pss_cons (ps_fld (pv 0) (pv 3) rfl)
  (pss_cons (ps_fld (pv 0) pe_int rfl)
  (pss_one (ps_fld (pv 0) (pe_lst pa_nil) rfl)))))), ?_⟩
  refine ⟨_, rfl, _, rfl, x, C, dx, [], rfl, hx, T.cl, T.nP, (by show 0 < 1000; decide), ?_⟩
  have s1 : Same H0 (upd H x (.ins C dx (putF "p" (.int p) []))) := same_upd s0 nx
  refine ⟨_, rfl, rg, _, rfl, .inl ((Kt.same s1).sq sq), ?_, fun l nl => ?_⟩
  · rw [List.length_cons, List.append_nil, List.length_map]
    exact small (show rs.length + 1 ≤ 1000 by omega)
  have nxl : x ≠ l := ne_of_none upd_same nl
  have l0 : H0 l = none := s1.free nl
  rw [List.append_nil]
  refine ⟨_, rfl, x, C, dx, _, rfl, (upd_ne nxl).trans upd_same, T.cl, T.nR, (by show 1 < 1000; decide), ?_⟩
  refine ⟨_, rfl, _, rfl, x, C, dx, _, rfl, upd_same, T.cl, T.nG, (by show 2 < 1000; decide), ?_⟩
  refine ⟨_, rfl, x, C, dx, _, rfl, upd_same, T.cl, T.nT, (by show 3 < 1000; decide), ?_⟩
  refine ⟨Nat.zero_le _, fun wl nw => ?_⟩
  have nxw : x ≠ wl := ne_of_none upd_same nw
  refine ⟨_, rfl, x, C, dx, _, rfl, (upd_ne nxw).trans upd_same, T.cl, T.nW, (by show 4 < 1000; decide), ?_⟩
  have s5 := same_upd (o := .ins C dx (putF "taken" (.int 0) (putF "given" (.ref g) (putF "row" (.ref l) (putF "p" (.int p) []))))) (same_upd (o := .ins C dx (putF "given" (.ref g) (putF "row" (.ref l) (putF "p" (.int p) [])))) (same_upd (o := .ins C dx (putF "row" (.ref l) (putF "p" (.int p) []))) (same_upd (o := .lst (V.int 1 :: rs.map V.int)) s1 l0) nx) nx) nx
  have w0 : H0 wl = none := s5.free nw
  have hl5 := (upd_ne (o := .ins C dx (putF "taken" (.int 0) (putF "given" (.ref g) (putF "row" (.ref l) (putF "p" (.int p) []))))) nxl.symm).trans ((upd_ne (o := .ins C dx (putF "given" (.ref g) (putF "row" (.ref l) (putF "p" (.int p) [])))) nxl.symm).trans ((upd_ne (o := .ins C dx (putF "row" (.ref l) (putF "p" (.int p) []))) nxl.symm).trans (upd_same (H := upd H x (.ins C dx (putF "p" (.int p) []))) (a := l) (o := .lst (V.int 1 :: rs.map V.int)))))
  have nlw : l ≠ wl := ne_of_none hl5 nw
  refine q _ ⟨same_upd (same_upd s5 w0) nx, nx, dx, l, wl, l0, w0, nlw, upd_same, ?_, ?_⟩
  · exact (upd_ne nxl.symm).trans ((upd_ne nlw).trans hl5)
  · exact (upd_ne nxw.symm).trans upd_same
theorem ok_perform {f C fE : Addr} {fd fdE : FuncData} {k : Nat} (F : Fun K "perform" "Runner.perform" sRperform f fd) (T : RTxt K mg C) (M : Bl mg) (FE : Fun K "executed" "executed" sPexecuted fE fdE) (bE : Binds K fdE ["p", "instruction", "row"] []) (gE : mg "executed" = some (.ref fE)) :
    FnOk P w K mg base CX0 (k + 2) f fd ["self", "instruction"] (spPerf K C) := by
  have GE : FnOk P w K mg base CX0 (k + 1) fE fdE ["p", "instruction", "row"] (spEx K) := ok_executed FE M
  refine F.ok scRperform (fun vs H Q E h => ?_) (fun cdv A outer s H vs Q E hr h => ?_)
  · obtain ⟨_, _, _, _, _, _, _, _, _, _, rfl, _⟩ := h
    rfl
  obtain ⟨H0, x, g, p, n, st, v, z, as, is, rfl, ⟨s0, nx, dx, l, wl, l0, w0, nlw, hx, hl, hw⟩, hT, sg, go, p0, p1, rl, rd, wb, q⟩ := h
  have hT1 := TrAt.kt (Kt.same s0) _ _ hT
  have hT0 := hT1
  rw [TrAt] at hT1
  obtain ⟨a, rfl, sa⟩ := hT1
  have sg1 := (Kt.same s0).sq sg
  have nlx : l ≠ x := ne_of hl hx (by intro e; cases e)
  have nwx : wl ≠ x := ne_of hw hx (by intro e; cases e)
  obtain ⟨x0, as', rfl, xa, xb⟩ : ∃ x0 as', as = x0 :: as' ∧ 0 ≤ x0 ∧ x0 < n := by
    rcases go with ⟨_, x, c, rfl, a, b, _⟩ | ⟨_, x, rfl, a, b⟩ | ⟨_, x, y, rfl, a, b, _⟩ | ⟨_, x, y, c, rfl, a, b, _⟩ <;> exact ⟨_, _, rfl, a, b⟩
  refine ⟨_, (pss_cons (ps_set (i := 2) scRperform.nd rfl (.inl rfl) (pe_op op_add (pe_ix ix_tup (pv 1) pe_int (fun _ _ => rfl)) pe_int))
  (pss_one (ps_if (pt_cmpR op_eq (pe_ix ix_tup (pv 1) pe_int (fun _ _ => rfl)) pe_str (nomark _))
    (pss_cons (ps_asg (pe_ix ix_tup (pe_fld (pv 0) rfl) (pe_fld (pv 0) rfl) (fun _ _ => rfl)) (pg_sub (pe_fld (pv 0) rfl) (pv 2) set_list))
  (pss_one (ps_fldaug (pv 0) pe_int in_add)))
    (pss_one (ps_if (pt_cmpR op_eq (pe_ix ix_tup (pv 1) pe_int (fun _ _ => rfl)) pe_str (nomark _))
    (pss_one (ps_expr (pe_bm PySem.F.plainAttrs_list PySem.F.slot_list_append PySem.F.type_list_append mt_append (pe_fld (pv 0) rfl) (pa_cons (pe_ix ix_list (pe_fld (pv 0) rfl) (pv 2) (fun _ _ => rfl)) pa_nil))))
    (pss_one (ps_fld (pv 0) (pe_call GE hr (by rfl) gE FE.kp bE .nil pass0 (pa_cons (pe_fld (pv 0) rfl) (pa_cons (pv 1) (pa_cons (pe_fld (pv 0) rfl) pa_nil)))) rfl))))))), ?_⟩
  refine ⟨_, rfl, a, _, 1, .int x0, rfl, rfl, sa, atI_nat (j := 1) rfl, _, _, rfl, rfl, ?_⟩
  refine ⟨_, rfl, a, _, 0, .str z, rfl, rfl, sa, at0, rfl, _, rfl, ?_⟩
  by_cases c1 : z = "read"
  · subst c1
    have tk := rd rfl
    refine iteP rfl ?_
    refine ⟨_, rfl, x, C, dx, _, _, rfl, hx, T.cl, T.nG, rf_given _ _ _ _ _, _, rfl, x, C, dx, _, _, rfl, hx, T.cl, T.nT, rf_taken _ _ _ _ _, g, _, (st.tk : Int), _, rfl, rfl, sg1, at_gt (by omega) (by omega), ?_⟩
    refine ⟨_, rfl, x, C, dx, _, _, rfl, hx, T.cl, T.nR, rf_row _ _ _ _ _, _, rfl, l, _, x0 + 1, (x0 + 1).toNat, rfl, rfl, hl, ?_, ?_⟩
    · rw [List.length_map]
      exact ix_sv (by omega) (by omega)
    rw [map_sv]
    refine ⟨_, rfl, x, C, dx, _, _, rfl, (upd_ne nlx.symm).trans hx, T.cl, T.nT, rf_taken _ _ _ _ _, _, _, rfl, rfl, dx, _, (upd_ne nlx.symm).trans hx, (by show 5 < 1000; decide), ?_⟩
    refine q _ ⟨same_upd (same_upd s0 l0) nx, nx, dx, l, wl, l0, w0, nlw, ?_, ?_, ?_⟩
    · rw [upd_same, stp_read]
      rfl
    · rw [upd_ne nlx, upd_same, stp_read]
      rfl
    · rw [upd_ne nwx, upd_ne nlw.symm, hw, stp_read]
  · refine iteN (fun e => c1 (V.str.inj e)) ?_
    refine ⟨_, rfl, a, _, 0, .str z, rfl, rfl, sa, at0, rfl, _, rfl, ?_⟩
    by_cases c2 : z = "write"
    · subst c2
      refine iteP rfl ?_
      refine ⟨_, rfl, x, C, dx, _, _, rfl, hx, T.cl, T.nW, rf_written _ _ _ _ _, .inl ⟨rfl, _, SqL.of hw⟩, _, rfl, x, C, dx, _, _, rfl, hx, T.cl, T.nR, rf_row _ _ _ _ _, _, rfl, l, _, x0 + 1, _, rfl, rfl, SqL.of hl, at_gt (by omega) (by omega), wl, _, _, rfl, rfl, hw, ?_, ?_⟩
      · rw [List.length_map, sizeLine_eq]
        omega
      refine q _ ⟨same_upd s0 w0, nx, dx, l, wl, l0, w0, nlw, ?_, ?_, ?_⟩
      · rw [upd_ne nwx.symm, hx, stp_write]
      · rw [upd_ne nlw, hl, stp_write]
      · rw [upd_same, stp_write, List.map_append]
        rfl
    · refine iteN (fun e => c2 (V.str.inj e)) ?_
      refine ⟨_, rfl, x, C, dx, _, _, rfl, hx, T.cl, T.nP, rf_p _ _ _ _ _, _, rfl, _, rfl, x, C, dx, _, _, rfl, hx, T.cl, T.nR, rf_row _ _ _ _ _, p, n, z, x0 :: as', _, l, st.row, rfl, hT0, go, c1, p0, p1, SqL.of hl, rl, fun H' m sm nm hm => ?_⟩
      have nxm : x ≠ m := ne_of_none hx nm
      have nwm : wl ≠ m := ne_of_none hw nm
      refine ⟨_, rfl, x, C, dx, _, rfl, sm _ _ hx, T.cl, T.nR, (by show 5 < 1000; decide), ?_⟩
      refine q _ ⟨same_upd (s0.trans sm) nx, nx, dx, m, wl, s0.free nm, w0, nwm.symm, ?_, ?_, ?_⟩
      · rw [upd_same, stp_else c1 c2]
        rfl
      · rw [upd_ne nxm.symm, hm, stp_else c1 c2]
      · rw [upd_ne nwx, sm _ _ hw, stp_else c1 c2]
/-! ### unrolled -/
theorem fl_take {b : List Tr} {i : Nat} {t : Tr} (e : b[i]? = some t) : exs (b.take (i + 1)) = exs (b.take i) ++ t.ex := flat_takeL e
theorem fl_le {b : List Tr} {i : Nat} {t : Tr} (e : b[i]? = some t) : (exs (b.take i)).length + t.ex.length ≤ (exs b).length := by
  have h : exs b = exs (b.take (i + 1)) ++ exs (b.drop (i + 1)) := exs_split b (i + 1)
  rw [h, fl_take e, List.length_append, List.length_append]
  omega
theorem trs_rep {H : Hp} {b : List Tr} {vs : List V} (h : TrsAt K H b vs) : ∀ n : Nat, TrsAt K H (List.replicate n b).flatten (List.replicate n vs).flatten
  | 0 => TrsAt.nil
  | n + 1 => by
    rw [List.replicate_succ, List.flatten_cons, List.replicate_succ, List.flatten_cons]
    exact h.append (trs_rep h n)
theorem ok_unr1 (M : Bl mg) (F : At K mg "unrolled" sUnrolled ["program"]) {d k : Nat} (h : Has P w K mg base k "unrolled" ["program"] (spUnr K d)) (hL : Has P w K mg base k "length" ["instruction"] (spII K (fun t => okB (d + 1) [t]) Tr.len)) : Has P w K mg base (k + 1) "unrolled" ["program"] (spUnr K (d + 1)) := by
  obtain ⟨_, _, cUnrolled⟩ := h
  obtain ⟨_, _, cLength⟩ := hL
  refine Has.by F scUnrolled (fun vs H Q E h => ?_) (fun f cdv A out s H vs Q E hg hr h => ?_)
  · obtain ⟨_, _, rfl, _⟩ := h
    rfl
  obtain ⟨v, b, rfl, ⟨c, us, rfl, sq, r⟩, ok, fin, big, q⟩ := h
  refine ⟨_, (pss_cons (ps_set (i := 1) scUnrolled.nd rfl (.inl rfl) (pe_lst pa_nil))
  (pss_cons (ps_for PassesOwn.never rfl (pi_tup (pv 0)) (pg_name (i := 2) scUnrolled.nd rfl (.inl rfl))
    (pss_one (ps_if (pt_cmpR op_ne (pe_ix ix_tup (pv 2) pe_int (fun _ _ => rfl)) pe_str (nomark _))
    (pss_one (ps_expr (pe_bm PySem.F.plainAttrs_list PySem.F.slot_list_append PySem.F.type_list_append mt_append (pv 1) (pa_cons (pv 2) pa_nil))))
    (pss_one (ps_if (pt_cmpR op_gt (pe_cal cLength hg hr (by rfl) (pa_cons (pv 2) pa_nil)) pe_int (nomark _))
    (pss_one (ps_expr (pe_bm PySem.F.plainAttrs_list PySem.F.slot_list_extend PySem.F.type_list_extend mt_extend (pv 1) (pa_cons (pe_op op_rep (pe_cal cUnrolled hg hr (by rfl) (pa_cons (pe_ix ix_tup (pv 2) pe_int (fun _ _ => rfl)) pa_nil)) (pe_ix ix_tup (pv 2) pe_int (fun _ _ => rfl))) pa_nil))))
    pss_nil)))))
  (pss_one (ps_ret (pv 1))))), ?_⟩
  refine ⟨Nat.zero_le _, fun fo nfo => ?_⟩
  refine ⟨_, rfl, c, rfl, ⟨_, (Kt.same (same_new nfo)).sq sq⟩, ?_⟩
  refine for_tup (xs := us) (fun i σ H' => ∃ y2 zs, σ = [some (.ref c), some (.ref fo), y2] ∧ Same H H' ∧ H' fo = some (.lst zs) ∧ TrsAt K H' (exs (b.take i)) zs) ⟨none, [], rfl, same_new nfo, upd_same, TrsAt.nil⟩ ?_ ?_ ?_
  · rintro i σ H' _ ⟨_, _, _, h, _⟩
    exact (Kt.same h).sq sq
  · rintro i x σ H2 hx ⟨y2, zs, rfl, s2, h2, t2⟩
    obtain ⟨t, ht, hT⟩ := r.get hx
    have hT := TrAt.kt (Kt.same s2) t x hT
    have bd := fl_le ht
    have zl := t2.length
    rw [fl_take ht]
    cases t with
    | op z as =>
      have hT0 := hT
      rw [TrAt] at hT
      obtain ⟨a, rfl, sq3⟩ := hT
      refine ⟨_, rfl, a, _, 0, .str z, rfl, rfl, sq3, at0, rfl, _, rfl, iteNN (fun e => okB_op ok ht (V.str.inj e)) ?_⟩
      refine ⟨_, rfl, .inl ⟨rfl, _, SqL.of h2⟩, _, rfl, fo, _, _, rfl, rfl, h2, ?_, ?_⟩
      · rw [zl, sizeLine_eq]
        rw [Tr.ex] at bd
        have : [Tr.op z as].length = 1 := rfl
        omega
      · have kt : Kt H2 (upd H2 fo (.lst (zs ++ [.ref a]))) := Kt.but But.upd h2
        exact ⟨_, _, rfl, same_upd s2 nfo, upd_same, (TrsAt.kt kt _ _ t2).append (by rw [Tr.ex]; exact TrsAt.one (TrAt.kt kt _ _ hT0))⟩
    | loop m b' =>
      have hT0 := hT
      have wf := wfs_get ok.1 ht
      have el := Tr.ex_len _ _ wf
      rw [TrAt] at hT
      obtain ⟨a, g, ws, rfl, sq3, sq4, r2⟩ := hT
      obtain ⟨c0, c1, ok2⟩ := okB_loop ok ht
      have fin2 := fines_get fin ht
      rw [Tr.fine] at fin2
      refine ⟨_, rfl, a, _, 0, .str "loop", rfl, rfl, sq3, rfl, rfl, _, rfl, neL rfl ?_⟩
      refine ⟨_, rfl, _, _, rfl, hT0, ⟨by rw [wfs, wfs]; exact ⟨wf, trivial⟩, by show 1 ≤ 1000; decide⟩, fun H3 s3 => ?_⟩
      refine ⟨_, _, rfl, rfl, _, rfl, ite2 (fun c => ?_) (fun c => ?_)⟩
      · refine ⟨_, rfl, .inl ⟨rfl, _, SqL.of (s3 _ _ h2)⟩, ?_⟩
        refine ⟨_, rfl, a, _, 2, .ref g, rfl, rfl, (Kt.same s3).sq sq3, rfl, _, b', rfl, ⟨g, ws, rfl, (Kt.same s3).sq sq4, TrsAt.kt (Kt.same s3) _ _ r2⟩, ok2, fin2.2, fin2.1, fun H4 l2 us2 s4 n4 h4 t4 => ?_⟩
        have e4 := t4.length
        have bd2 : m.toNat * (exs b').length ≤ (exs b).length := by
          rw [Tr.ex, flat_len] at bd
          omega
        have cm : m ≤ 100000 := by
          have c' : 0 < Tr.len (.loop m b') := of_decide_eq_true c
          rw [← el, Tr.ex, flat_len] at c'
          have : 0 < (exs b').length := Nat.pos_of_ne_zero fun e => by
            rw [e, Nat.mul_zero] at c'
            omega
          have : m.toNat ≤ m.toNat * (exs b').length := Nat.le_mul_of_pos_right _ this
          omega
        refine ⟨_, rfl, a, _, 1, .int m, rfl, rfl, (Kt.same (s3.trans s4)).sq sq3, rfl, l2, m, us2, rfl, rfl, h4, by omega, by omega, ?_, fun e ne => ?_⟩
        · rw [e4, sizeLine_eq, Nat.mul_comm]
          omega
        have h2' : (upd H4 e (.lst (List.replicate m.toNat us2).flatten)) fo = some (.lst zs) := same_new ne _ _ (s4 _ _ (s3 _ _ h2))
        refine ⟨fo, e, _, _, rfl, rfl, h2', upd_same, ?_, ?_⟩
        · rw [flat_len, zl, e4, sizeLine_eq]
          rw [Tr.ex, flat_len] at bd
          omega
        · have kt : Kt H4 (upd (upd H4 e (.lst (List.replicate m.toNat us2).flatten)) fo (.lst (zs ++ (List.replicate m.toNat us2).flatten))) := (Kt.same (same_new ne)).trans (Kt.but But.upd h2')
          refine ⟨_, _, rfl, same_upd ((s2.trans (s3.trans s4)).trans (same_new ne)) nfo, upd_same, (TrsAt.kt ((Kt.same (s3.trans s4)).trans kt) _ _ t2).append ?_⟩
          rw [Tr.ex]
          exact trs_rep (TrsAt.kt kt _ _ t4) _
      · have c' : ¬ 0 < Tr.len (.loop m b') := fun h => c (decide_eq_true h)
        have z0 : (Tr.ex (.loop m b')).length = 0 := by omega
        rw [List.length_eq_zero_iff.mp z0, List.append_nil]
        exact ⟨_, _, rfl, s2.trans s3, s3 _ _ h2, TrsAt.kt (Kt.same s3) _ _ t2⟩
  · rintro σ H2 ⟨y2, zs, rfl, s2, h2, t2⟩
    rw [r.length, take_all] at t2
    exact ⟨_, rfl, q H2 fo zs s2 nfo h2 t2⟩
theorem ok_unr (M : Bl mg) (F : At K mg "unrolled" sUnrolled ["program"]) (FL : At K mg "length" sLength ["instruction"]) (FS : At K mg "step_count" sStep_count ["program"]) : ∀ d, Has P w K mg base (2 * d) "unrolled" ["program"] (spUnr K d)
  | 0 => Has.none F fun vs H Q E ⟨_, _, _, _, h, _⟩ => h
  | d + 1 => ok_unr1 M F ((ok_unr M F FL FS d).up (Nat.le_succ _)) (ok_length M FL (ok_steps M FL FS d))
end
section
variable {P : Program} {w : World} {K : PySem.W.Frag} {mg : Str → Option Value} {base : Heap}
/-! ### run, which may refuse -/
def spRunE (K : PySem.W.Frag) (C : Addr) (d : Nat) : Sp := fun vs H Q E => spRun K d vs H Q E ∨
  ∃ (a1 v a2 a3 : V) (b : List Tr), vs = [a1, v, a2, a3] ∧ BodyAt K H b v ∧ okB d b ∧ 20000 < lens b ∧ ∀ dx H', Same H H' → H dx = none → H' dx = some (.xd [("size", .int (lens b))]) → E (.ref C) (some dx) H'
theorem ok_runE (M : Bl mg) (F : At K mg "run" sRun ["p", "program", "registers", "inputs"]) {tkn : Tok} (g_MAX_STEPS : mg "MAX_STEPS" = some (.int 20000 tkn)) {C fI fP CL fL : Addr} {fdI fdP : FuncData} (TL : ErrTxt P K mg "TooLong" "size" CL fL) (T : RTxt K mg C) (MK : Mk K C fI) {d k : Nat} (kd : 2 ≤ k)
    (GI : FnOk P w K mg base CX0 1 fI fdI ["self", "p", "registers", "inputs"] (spRInit K C)) (bI : Binds K fdI ["self", "p", "registers", "inputs"] []) (GP : FnOk P w K mg base CX0 2 fP fdP ["self", "instruction"] (spPerf K C)) (bP : Binds K fdP ["self", "instruction"] []) (mP : Meth K C "perform" fP)
    (hS : Has P w K mg base k "step_count" ["program"] (spTI K (okB (d + 1)) lens)) (hU : Has P w K mg base k "unrolled" ["program"] (spUnr K (d + 1))) : HasE P w K mg base (k + 1) "run" ["p", "program", "registers", "inputs"] (spRunE K CL (d + 1)) := by
  obtain ⟨_, _, cStep_count⟩ := hS
  obtain ⟨_, _, cUnrolled⟩ := hU
  refine HasE.by F scRun (fun vs H Q E h => ?_) (fun f cdv A out s H vs Q E hg hr h => ?_)
  · rcases h with ⟨_, _, _, _, _, _, _, _, rfl, _⟩ | ⟨_, _, _, _, _, rfl, _⟩
    · rfl
    · rfl
  have hr2 := hr.mono (j := 2) kd
  rcases h with h | h
  case inr =>
    obtain ⟨a1, v, a2, a3, b, rfl, hB, ok, big, q⟩ := h
    refine ⟨_, (pss_cons (ps_set (i := 4) scRun.nd rfl (.inl rfl) (pe_cal cStep_count hg hr (by rfl) (pa_cons (pv 1) pa_nil)))
  (pss_cons (ps_if (pt_cmpR op_gt (pv 4) (pe_glob (v := .int 20000) (by rfl) g_MAX_STEPS ⟨_, rfl⟩) (nomark _))
    (pss_one (ps_raiseErr rfl TL hr (takes_of rfl rfl rfl rfl) (pa_cons (pv 4) pa_nil) (by rfl)))
    pss_nil)
  (PSs.nox (pss_cons (ps_set (i := 5) scRun.nd rfl (.inl rfl) (pe_make MK GI hr2 (by rfl) T.mgC bI .nil pass0 (pa_cons (pv 0) (pa_cons (pv 2) (pa_cons (pv 3) pa_nil)))))
  (pss_cons (ps_for PassesOwn.never rfl (pi_list (pe_cal cUnrolled hg hr (by rfl) (pa_cons (pv 1) pa_nil))) (pg_name (i := 6) scRun.nd rfl (.inl rfl))
    (pss_one (ps_expr (pe_meth (pv 5) T.cl mP GP hr2 bP .nil pass0 (pa_cons (pv 6) pa_nil)))))
  (pss_one (ps_ret (pe_tup (pa_cons (pe_callTy call_tuple_of (by rfl) M.tuple_ (by decide +kernel) (pa_cons (pe_slice sl_list (pe_fld (pv 5) rfl) (po_some pe_int) po_none) pa_nil)) (pa_cons (pe_callTy call_tuple_of (by rfl) M.tuple_ (by decide +kernel) (pa_cons (pe_fld (pv 5) rfl) pa_nil)) pa_nil)))))))))), ?_⟩
    refine ⟨_, rfl, v, b, rfl, hB, ok, fun H1 s1 => ?_⟩
    refine ⟨_, rfl, _, _, rfl, rfl, _, rfl, iteP big ?_⟩
    exact ⟨_, rfl, _, rfl, fun d nd => q d _ (s1.trans (same_new nd)) (s1.free nd) upd_same⟩
  obtain ⟨p, n, v, b, rg, g, rs, is, rfl, hB, ok, fin, big, gd, p0, p1, n1, sr, rl, sg, rcl, q⟩ := h
  have el := exs_len b d ok.1
  refine ⟨_, (pss_cons (ps_set (i := 4) scRun.nd rfl (.inl rfl) (pe_cal cStep_count hg hr (by rfl) (pa_cons (pv 1) pa_nil)))
  (pss_cons (ps_if (pt_cmpR op_gt (pv 4) (pe_glob (v := .int 20000) (by rfl) g_MAX_STEPS ⟨_, rfl⟩) (nomark _))
    (pss_one (ps_raiseErr rfl TL hr (takes_of rfl rfl rfl rfl) (pa_cons (pv 4) pa_nil) (by rfl)))
    pss_nil)
  (PSs.nox (pss_cons (ps_set (i := 5) scRun.nd rfl (.inl rfl) (pe_make MK GI hr2 (by rfl) T.mgC bI .nil pass0 (pa_cons (pv 0) (pa_cons (pv 2) (pa_cons (pv 3) pa_nil)))))
  (pss_cons (ps_for PassesOwn.never rfl (pi_list (pe_cal cUnrolled hg hr (by rfl) (pa_cons (pv 1) pa_nil))) (pg_name (i := 6) scRun.nd rfl (.inl rfl))
    (pss_one (ps_expr (pe_meth (pv 5) T.cl mP GP hr2 bP .nil pass0 (pa_cons (pv 6) pa_nil)))))
  (pss_one (ps_ret (pe_tup (pa_cons (pe_callTy call_tuple_of (by rfl) M.tuple_ (by decide +kernel) (pa_cons (pe_slice sl_list (pe_fld (pv 5) rfl) (po_some pe_int) po_none) pa_nil)) (pa_cons (pe_callTy call_tuple_of (by rfl) M.tuple_ (by decide +kernel) (pa_cons (pe_fld (pv 5) rfl) pa_nil)) pa_nil)))))))))), ?_⟩
  refine ⟨_, rfl, v, b, rfl, hB, ok, fun H1 s1 => ?_⟩
  refine ⟨_, rfl, _, _, rfl, rfl, _, rfl, iteN (by omega) ?_⟩
  -- the runner
  refine ⟨_, rfl, _, rfl, _, rfl, fun x dx nx ndx ndxx => ?_⟩
  have s2 : Same H1 (upd (upd H1 dx (.own x)) x (.ins C dx [])) := (same_new ndx).trans (same_new (by rw [upd_ne ndxx.symm]; exact nx))
  refine ⟨H1, x, dx, rg, g, p, rs, rfl, s2, nx, upd_same, (Kt.same s1).sq sr, by omega, fun H3 R3 => ⟨rfl, ?_⟩⟩
  obtain ⟨s3, _, dx3, l, wl, l0, w0, nlw, hx3, hl3, hw3⟩ := R3
  refine ⟨_, rfl, v, b, rfl, hB.kt (Kt.same (s1.trans s3)), ok, fin, by omega, fun H4 l2 us s4 n4 h4 t4 => ?_⟩
  have nx2 : x ≠ l2 := ne_of_none hx3 n4
  have nl2 : l ≠ l2 := ne_of_none hl3 n4
  have nw2 : wl ≠ l2 := ne_of_none hw3 n4
  have b2 : l2 ∉ [x, l, wl] := by
    simp only [List.mem_cons, List.not_mem_nil, or_false, not_or]
    exact ⟨nx2.symm, nl2.symm, nw2.symm⟩
  have kt : Kt H4 (wo [x, l, wl] H4) := wo_kt fun y m => by
    simp only [List.mem_cons, List.not_mem_nil, or_false] at m
    rcases m with rfl | rfl | rfl
    · exact .inl ⟨_, _, _, s4 _ _ hx3⟩
    · exact .inr ⟨_, s4 _ _ hl3⟩
    · exact .inr ⟨_, s4 _ _ hw3⟩
  have old : Same H (wo [x, l, wl] H4) := fun y o e => wo_at (s4 _ _ (s3 _ _ (s1 _ _ e))) (by
    simp only [List.mem_cons, List.not_mem_nil, or_false, not_or]
    exact ⟨ne_of_none (s1 _ _ e) nx, ne_of_none (s1 _ _ e) l0, ne_of_none (s1 _ _ e) w0⟩)
  have tr := TrsAt.kt kt _ _ t4
  have sg0 : SqT K (wo [x, l, wl] H4) g (is.map V.int) := (Kt.same old).sq sg
  have hl2 : wo [x, l, wl] H4 l2 = some (.lst us) := wo_at h4 b2
  refine ⟨l2, rfl, ⟨_, SqL.of h4⟩, ?_⟩
  refine for_list (K := K) (a := l2) (xs := us) (fun i σ H' => ∃ y6, σ = [some (.int p), some v, some (.ref rg), some (.ref g), some (.int (lens b)), some (.ref x), y6] ∧ RunAt C (wo [x, l, wl] H4) H' x p g (rns p is (run0 rs) ((exs b).take i))) ⟨none, rfl, wo_on, wo_no (by simp), dx3, l, wl, wo_no (by simp), wo_no (by simp), nlw, s4 _ _ hx3, s4 _ _ hl3, s4 _ _ hw3⟩ ?_ ?_ ?_
  · rintro i σ H' _ ⟨_, _, R⟩
    exact SqL.of (R.1 _ _ hl2)
  · rintro i y σ H' hy ⟨y6, rfl, R⟩
    obtain ⟨t, ht, hT⟩ := tr.get hy
    obtain ⟨z, as, rfl, go⟩ := gd t (List.mem_of_getElem? ht)
    have tk := rns_tk (is := is) (s := run0 rs) (gd.take i)
    have wr := rns_wr (is := is) (s := run0 rs) (gd.take i)
    have le := rns_len (is := is) (s := run0 rs) (gd.take i)
    obtain ⟨_, _, dx5, l5, wl5, _, _, _, hx5, _⟩ := id R
    refine ⟨_, rfl, x, dx5, _, rfl, hx5, rf_perform _ _ _ _ _, _, rfl, _, x, g, p, n, _, y, z, as, is, rfl, R, hT, sg0, go, p0, p1, ?_, fun e => ?_, ?_, fun H6 R6 => ?_⟩
    · rw [le]
      show (((1 : Int) :: rs).length : Int) = _
      rw [List.length_cons]
      omega
    · subst e
      have h1 := rc_take (exs b) (i + 1)
      rw [List.take_add_one, ht, rc_append] at h1
      have h2 : rc (some (Tr.op "read" as)).toList = 1 := rfl
      have h3 : ((run0 rs).tk : Int) = 0 := rfl
      omega
    · rw [wr]
      have h1 := wc_le ((exs b).take i)
      have h2 : (run0 rs).wr.length = 0 := rfl
      have h3 := List.length_take_le i (exs b)
      rw [List.length_take] at h1
      omega
    · refine ⟨_, rfl, ?_⟩
      rw [rns_next ht]
      exact R6
  · rintro σ H' ⟨y6, rfl, R⟩
    rw [t4.length, List.take_length] at R
    obtain ⟨s7, _, dx5, l5, wl5, l50, w50, nlw5, hx5, hl5, hw5⟩ := R
    have hn : ((run0 rs).row.length : Int) = n + 1 := by
      show (((1 : Int) :: rs).length : Int) = _
      rw [List.length_cons]
      omega
    have le := rns_len (is := is) (s := run0 rs) gd
    obtain ⟨r0, rt, er⟩ : ∃ r0 rt, (rns p is (run0 rs) (exs b)).row = r0 :: rt := by
      cases e : (rns p is (run0 rs) (exs b)).row with
      | nil => rw [e] at le; simp [run0] at le
      | cons r0 rt => exact ⟨r0, rt, rfl⟩
    refine ⟨_, rfl, x, C, dx5, _, _, rfl, hx5, T.cl, T.nR, rf_row _ _ _ _ _, _, rfl, l5, _, rfl, SqL.of hl5, fun e1 ne1 => ?_⟩
    have nx1 := ne_of_none hx5 ne1
    have nw1 := ne_of_none hw5 ne1
    refine ⟨e1, _, rfl, .inl ⟨SqL.of upd_same, fun t1 nt1 => ?_⟩⟩
    have nx3 : x ≠ t1 := fun e => by rw [← e, upd_ne nx1, hx5] at nt1; cases nt1
    have nw3 : wl5 ≠ t1 := fun e => by rw [← e, upd_ne nw1, hw5] at nt1; cases nt1
    refine ⟨_, rfl, x, C, dx5, _, _, rfl, (upd_ne nx3).trans ((upd_ne nx1).trans hx5), T.cl, T.nW, rf_written _ _ _ _ _, wl5, _, rfl, .inl ⟨SqL.of ((upd_ne nw3).trans ((upd_ne nw1).trans hw5)), fun t2 nt2 => ?_⟩⟩
    have n12 : t1 ≠ t2 := ne_of_none upd_same nt2
    refine ⟨(by show 2 ≤ sizeLine; decide), fun t nt => ?_⟩
    have n1t : t1 ≠ t := fun e => by rw [← e, upd_ne n12, upd_same] at nt; cases nt
    have n2t : t2 ≠ t := ne_of_none upd_same nt
    have sA : Same H H' := old.trans s7
    have sB := ((sA.trans (same_new ne1)).trans (same_new nt1)).trans (same_new (o := .tup ((rns p is (run0 rs) (exs b)).wr.map V.int)) nt2)
    refine q _ t t1 t2 (sB.trans (same_new nt)) (sB.free nt) upd_same ?_ ?_
    · rw [upd_ne n1t, upd_ne n12, upd_same, er, List.map_cons, cut_tail]
      rfl
    · rw [upd_ne n2t, upd_same]
end

end K12
set_option Elab.async false
set_option linter.all false
set_option maxRecDepth 100000
set_option pp.maxSteps 500
set_option pp.deepTerms.threshold 8
set_option pp.deepTerms false
namespace K12
open PySem PySem.Spec PyProof.Rows L2 Lj
section
variable {P : Program} {w : World} {K : PySem.W.Frag} {mg : Str → Option Value} {base : Heap}
theorem ok_urn {f : Addr} {fd : FuncData} {k : Nat} (F : Fun K "_law_urn" "_law_urn" sUrn f fd) (ml : mg "len" = none) (ma : mg "abs" = none) (mi : mg "int" = none) :
    FnOk P w K mg base CX0 (k + 1) f fd ["_law_script", "_law_k"] (spUrn K) := by
  refine F.ok scUrn (fun vs H Q E h => ?_) (fun cdv A outer s H vs Q E hr h => ?_)
  · obtain ⟨a, ns, k, rfl, _⟩ := h
    rfl
  obtain ⟨a, ns, k, rfl, hS, h0, h1, q⟩ := h
  refine ⟨_, Evl.pss_cut (ps_set (i := 2) scUrn.nd rfl (.inl rfl) (pe_ifExp (pt_cmpR op_lt (pv 1) (pe_callB call_len_seq (by rfl) ml PySem.boot_len (pa_cons (pv 0) pa_nil)) (nomark _)) (pe_ix ix_list (pv 0) (pv 1) (fun _ _ => rfl)) (pe_op op_add (pe_op op_mul pe_int (pv 1)) pe_int)))
    (pss_cons (ps_set (i := 3) scUrn.nd rfl (.inl rfl) (pe_op op_mul (pe_op op_mod (pe_callB call_abs (by rfl) ma (by decide +kernel) (pa_cons (pv 2) pa_nil)) (pe_callTy call_int_str (by rfl) mi (by decide +kernel) (pa_cons (pe_op op_add_str pe_str (pe_op op_mulS pe_str pe_int)) pa_nil)))
       (pe_callTy call_int1 (by rfl) mi (by decide +kernel) (pa_cons (pe_cmpR op_ge (pe_callB call_abs (by rfl) ma (by decide +kernel) (pa_cons (pv 2) pa_nil)) (pe_op op_pow pe_int pe_int) (nomark _)) pa_nil))))
    (pss_one (ps_ret (pe_lst (pa_cons (pv 3) (pa_cons (pe_op op_mod (pe_op op_mul (pe_op op_add (pe_op op_add (pe_op op_mod (pv 2) pe_int) (pe_op op_mul (pe_op op_mul pe_int (pv 1)) (pv 1))) pe_int) pe_int) pe_int) pa_nil)))))), ?_⟩
  refine ⟨fun σ H' => ∃ c : Int, σ = [some (.ref a), some (.int k), some (.int c), none] ∧ H' = H, ?_, ?_⟩
  · refine ⟨_, rfl, _, rfl, a, _, rfl, .inl hS, _, _, rfl, rfl, _, rfl, ite2 (fun c => ?_) (fun c => ?_)⟩
    · have c' : k < (((ns.map V.int).length : Nat) : Int) := of_decide_eq_true c
      rw [List.length_map] at c'
      obtain ⟨v, _, hv⟩ := at_int (ns := ns) h0 c'
      exact ⟨_, rfl, _, rfl, a, _, _, _, rfl, rfl, hS, hv, v, rfl, rfl⟩
    · exact ⟨_, rfl, 3, k, rfl, rfl, .inl ⟨by decide, by decide⟩, _, _, rfl, rfl, _, rfl, rfl⟩
  · rintro σ' H' ⟨c, rfl, rfl⟩
    refine ⟨_, rfl, c, rfl, _, _, rfl, rfl, mul_ok0, _, _, rfl, rfl, (by decide +kernel), _, _, rfl, urnText_int, urnText_len, _, _, rfl, rfl, (by show (0 : Int) < 10 ^ 300; decide +kernel), _, rfl, c, rfl, 10, 18, rfl, rfl, ⟨by decide, by decide, by decide⟩, _, _, rfl, rfl, .inr ⟨_, rfl, _, _, rfl, rfl, .inr ?_, ?_⟩⟩
    · exact ind_bd _
    obtain ⟨o1, o2⟩ := own_lt c (decide (10 ^ (18 : Int).toNat ≤ if c < 0 then -c else c))
    refine ⟨_, rfl, _, rfl, c, _, rfl, rfl, (by show (0 : Int) < 2305843009213693951; decide), _, rfl, 7919, k, rfl, rfl, .inl ⟨by decide, by decide⟩, _, rfl, _, k, rfl, rfl, .inl ⟨by omega, by omega⟩, _, _, rfl, rfl, _, _, rfl, rfl, _, _, rfl, rfl, .inr ⟨by decide, by decide⟩, _, _, rfl, rfl, (by show (0 : Int) < 2305843009213693951; decide), (by show 2 ≤ sizeLine; decide), fun p np => ?_⟩
    exact q _ p (same_new np) np ⟨_, _, upd_same, o1, o2, Int.emod_nonneg _ (by decide), Int.emod_lt_of_pos _ (by decide)⟩
theorem ok_take {f : Addr} {fd : FuncData} {k : Nat} (F : Fun K "_law_take" "_law_take" sTake f fd) :
    FnOk P w K mg base CX0 (k + 1) f fd ["_law_urn_here", "_law_below"] spTake := by
  refine F.ok scTake (fun vs H Q E h => ?_) (fun cdv A outer s H vs Q E hr h => ?_)
  · obtain ⟨p, n, rfl, _⟩ := h
    rfl
  obtain ⟨p, n, rfl, ⟨u, v, hp, u0, u1, v0, v1⟩, n0, n1, q⟩ := h
  refine ⟨_, pss_cons (ps_if (pt_cmpR op_gt (pe_ix ix_list (pv 0) pe_int (fun _ _ => rfl)) pe_int (nomark _))
      (pss_cons (ps_set (i := 2) scTake.nd rfl (.inl rfl) (pe_op op_mod (pe_ix ix_list (pv 0) pe_int (fun _ _ => rfl)) (pv 1)))
      (pss_cons (ps_asg (pe_op op_fdivW (pe_ix ix_list (pv 0) pe_int (fun _ _ => rfl)) (pv 1)) (pg_sub (pv 0) pe_int set_list))
      (pss_one (ps_ret (pv 2))))) pss_nil)
    (pss_cons (ps_asg (pe_op op_mod (pe_op op_add (pe_op op_mul (pe_ix ix_list (pv 0) pe_int (fun _ _ => rfl)) pe_int) pe_int) pe_int) (pg_sub (pv 0) pe_int set_list))
    (pss_cons (ps_set (i := 3) scTake.nd rfl (.inl rfl) (pe_op op_mod (pe_op op_mul (pe_op op_fdiv (pe_ix ix_list (pv 0) pe_int (fun _ _ => rfl)) pe_int) (pe_op op_add (pe_op op_mod (pe_ix ix_list (pv 0) pe_int (fun _ _ => rfl)) pe_int) pe_int)) pe_int))
    (Evl.pss_cut (ps_if (pt_cmpR op_gt (pv 1) (pe_op op_pow pe_int pe_int) (nomark _))
      (pss_cons (ps_asg (pe_op op_mod (pe_op op_add (pe_op op_mul (pe_ix ix_list (pv 0) pe_int (fun _ _ => rfl)) pe_int) pe_int) pe_int) (pg_sub (pv 0) pe_int set_list))
      (pss_one (ps_set (i := 3) scTake.nd rfl (.inl rfl) (pe_op op_add (pe_op op_mul (pv 3) pe_int) (pe_ix ix_list (pv 0) pe_int (fun _ _ => rfl)))))) pss_nil)
    (pss_one (ps_ret (pe_op op_mod (pe_op op_fdiv (pv 3) pe_int) (pv 1))))))), ?_⟩
  refine ⟨_, rfl, p, _, 0, .int u, rfl, rfl, SqL.of hp, rfl, _, _, rfl, rfl, _, rfl, ite2 (fun c => ?_) (fun c => ?_)⟩
  · have c' : 0 < u := of_decide_eq_true c
    refine ⟨_, rfl, p, _, 0, .int u, rfl, rfl, SqL.of hp, rfl, _, rfl, u, n, rfl, rfl, n0, ?_⟩
    refine ⟨_, rfl, p, _, 0, .int u, rfl, rfl, SqL.of hp, rfl, _, rfl, u, n, rfl, rfl, wide_div (b := 1000) n0 n1 (by decide) (by decide), _, rfl, p, _, 0, 0, rfl, rfl, hp, rfl, _, rfl, ?_⟩
    refine q _ _ (Int.emod_nonneg _ (by omega)) (Int.emod_lt_of_pos _ n0) ⟨_, v, upd_same, ?_, ?_, v0, v1⟩ But.upd
    · exact Int.ediv_nonneg (by omega) (by omega)
    · have h1 : 0 ≤ u / n := Int.ediv_nonneg (by omega) (by omega)
      have h2 : u / n ≤ u := Int.ediv_le_self _ (by omega)
      omega
  · refine ⟨_, rfl, p, _, 1, .int v, rfl, rfl, SqL.of hp, rfl, v, _, rfl, rfl, .inl ⟨by omega, by omega⟩, _, _, rfl, rfl, _, _, rfl, rfl, (by show (0 : Int) < 2305843009213693951; decide), _, rfl, p, _, 1, 1, rfl, rfl, hp, rfl, ?_⟩
    have w0 := nx0 v
    have w1 := nx1 v
    have hx : (upd H p (.lst [.int u, .int (nx v)])) p = some (.lst [.int u, .int (nx v)]) := upd_same
    refine ⟨_, rfl, p, _, 1, .int (nx v), rfl, rfl, SqL.of hx, rfl, nx v, _, rfl, rfl, ⟨by decide, by decide⟩, _, rfl, p, _, 1, .int (nx v), rfl, rfl, SqL.of hx, rfl, nx v, _, rfl, rfl, (by show (0 : Int) < 65537; decide), _, _, rfl, rfl, _, _, rfl, rfl, .inr ⟨by omega, by omega⟩, _, _, rfl, rfl, (by show (0 : Int) < 2305843009213693921; decide), ?_⟩
    refine ⟨fun σ H' => ∃ m y : Int, σ = [some (.ref p), some (.int n), none, some (.int m)] ∧ H' = upd H p (.lst [.int u, .int y]) ∧ 0 ≤ y ∧ y < 2305843009213693951, ?_, ?_⟩
    · refine ⟨_, rfl, 10, 9, rfl, rfl, ⟨by decide, by decide, by decide⟩, _, _, rfl, rfl, _, rfl, ite2 (fun c => ?_) (fun c => ?_)⟩
      · refine ⟨_, rfl, p, _, 1, .int (nx v), rfl, rfl, SqL.of hx, rfl, nx v, _, rfl, rfl, .inl ⟨by omega, by omega⟩, _, _, rfl, rfl, _, _, rfl, rfl, (by show (0 : Int) < 2305843009213693951; decide), _, rfl, p, _, 1, 1, rfl, rfl, hx, rfl, ?_⟩
        have hy : (upd (upd H p (.lst [.int u, .int (nx v)])) p (.lst [.int u, .int (ny (nx v))])) p = some (.lst [.int u, .int (ny (nx v))]) := upd_same
        refine ⟨_, rfl, _, _, rfl, rfl, .inr ⟨by decide, by decide⟩, _, rfl, p, _, 1, .int (ny (nx v)), rfl, rfl, SqL.of hy, rfl, _, _, rfl, rfl, ?_⟩
        exact ⟨_, ny (nx v), rfl, upd_upd, ny0 _, ny1 _⟩
      · exact ⟨_, nx v, rfl, rfl, w0, w1⟩
    · rintro σ' H' ⟨m, y, rfl, rfl, y0, y1⟩
      refine ⟨_, rfl, m, 97, rfl, rfl, ⟨by decide, by decide⟩, _, rfl, _, n, rfl, rfl, n0, ?_⟩
      exact q _ _ (Int.emod_nonneg _ (by omega)) (Int.emod_lt_of_pos _ n0) ⟨u, y, upd_same, u0, u1, y0, y1⟩ But.upd
theorem ok_of {f fT : Addr} {fd fdT : FuncData} {k : Nat} (F : Fun K "_law_of" "_law_of" sOf f fd) (FT : Fun K "_law_take" "_law_take" sTake fT fdT) (bT : Binds K fdT ["_law_urn_here", "_law_below"] []) (gT : mg "_law_take" = some (.ref fT)) (ml : mg "len" = none) :
    FnOk P w K mg base CX0 (k + 2) f fd ["_law_urn_here", "_law_items"] (spOf K) := by
  have GT : FnOk P w K mg base CX0 (k + 1) fT fdT ["_law_urn_here", "_law_below"] spTake := ok_take FT
  refine F.ok scOf (fun vs H Q E h => ?_) (fun cdv A outer s H vs Q E hr h => ?_)
  · obtain ⟨p, r, xs, rfl, _⟩ := h
    rfl
  obtain ⟨p, r, xs, rfl, hU, nr, hr2, hx, hl, q⟩ := h
  refine ⟨_, pss_one (ps_ret (pe_ix ix_list (pv 1) (pe_call GT hr (by rfl) gT FT.kp bT .nil pass0 (pa_cons (pv 0) (pa_cons (pe_callB call_len_seq (by rfl) ml PySem.boot_len (pa_cons (pv 1) pa_nil)) pa_nil))) (fun _ _ => rfl))), ?_⟩
  have l0 : 0 < xs.length := List.length_pos_iff.mpr hx
  have l1 : (1000 : Nat) < wide := by decide +kernel
  refine ⟨_, rfl, _, rfl, _, rfl, r, xs, rfl, .inl hr2, p, _, rfl, hU, by omega, by omega, fun d H' d0 d1 hU' hb => ?_⟩
  obtain ⟨x, mx, hx2⟩ := at_any (xs := xs) d0 d1
  exact ⟨r, xs, d, x, rfl, rfl, hb.seq nr hr2, hx2, q x H' mx hU' hb⟩
end
section
variable {P : Program} {w : World} {K : PySem.W.Frag} {mg : Str → Option Value} {base : Heap}
theorem has_urn (M : Bl mg) (F : At K mg "_law_urn" sUrn ["_law_script", "_law_k"]) : Has P w K mg base 1 "_law_urn" ["_law_script", "_law_k"] (spUrn K) := by
  obtain ⟨f, fd, F, b, g⟩ := F
  exact ⟨f, fd, .of (ok_urn F M.len_ M.abs_ M.int_), F.kp, b, g, fun_lk F⟩
theorem has_take (F : At K mg "_law_take" sTake ["_law_urn_here", "_law_below"]) : Has P w K mg base 1 "_law_take" ["_law_urn_here", "_law_below"] spTake := by
  obtain ⟨f, fd, F, b, g⟩ := F
  exact ⟨f, fd, .of (ok_take F), F.kp, b, g, fun_lk F⟩
theorem has_of (M : Bl mg) (F : At K mg "_law_of" sOf ["_law_urn_here", "_law_items"]) (FT : At K mg "_law_take" sTake ["_law_urn_here", "_law_below"]) : Has P w K mg base 2 "_law_of" ["_law_urn_here", "_law_items"] (spOf K) := by
  obtain ⟨f, fd, F, b, g⟩ := F
  obtain ⟨f2, fd2, F2, b2, g2⟩ := FT
  exact ⟨f, fd, .of (ok_of F F2 b2 g2 M.len_), F.kp, b, g, fun_lk F⟩
theorem ok_prime (F : At K mg "_law_prime" sPrime ["_law_urn_here"]) {k : Nat} (h : Has P w K mg base k "_law_of" ["_law_urn_here", "_law_items"] (spOf K)) : Has P w K mg base (k + 1) "_law_prime" ["_law_urn_here"] spPrimeU := by
  obtain ⟨_, _, cOf⟩ := h
  refine Has.by F scPrime (fun vs H Q E h => ?_) (fun f cdv A out s H vs Q E hg hr h => ?_)
  · obtain ⟨p, rfl, _⟩ := h
    rfl
  obtain ⟨p, rfl, hU, q⟩ := h
  refine ⟨_, (pss_one (ps_ret (pe_cal cOf hg hr (by rfl) (pa_cons (pv 0) (pa_cons (pe_lst (pa_cons pe_int (pa_cons pe_int (pa_cons pe_int (pa_cons pe_int (pa_cons pe_int (pa_cons pe_int (pa_cons pe_int (pa_cons pe_int (pa_cons pe_int (pa_cons pe_int (pa_cons pe_int (pa_cons pe_int (pa_cons pe_int pa_nil)))))))))))))) pa_nil))))), ?_⟩
  refine ⟨_, rfl, (by show 13 ≤ sizeLine; decide), fun l nl => ?_⟩
  refine ⟨p, l, _, rfl, hU.same (same_new nl), hU.ne nl, SqL.of upd_same, (by intro z; cases z), (by show 13 ≤ 1000; decide), fun x H' hx hU' hb => ?_⟩
  have hx2 : x ∈ prs.map V.int := hx
  obtain ⟨z, hz, rfl⟩ := List.mem_map.mp hx2
  exact q z H' hz hU' (But.trans (But.new nl) hb)
theorem ok_words (F : At K mg "_law_words" sWords []) : Has P w K mg base 1 "_law_words" [] spWords := by
  refine Has.by F scWords (fun vs H Q E h => ?_) (fun f cdv A out s H vs Q E hg hr h => ?_)
  · obtain ⟨rfl, _⟩ := h
    rfl
  obtain ⟨rfl, q⟩ := h
  exact ⟨_, (pss_one (ps_ret (pe_lst (pa_cons pe_str (pa_cons pe_str (pa_cons pe_str (pa_cons pe_str (pa_cons pe_str (pa_cons pe_str (pa_cons pe_str (pa_cons pe_str (pa_cons pe_str pa_nil)))))))))))), (by show 9 ≤ sizeLine; decide), fun l nl => q l nl⟩
theorem tup_op {H : Hp} {t : Addr} {u : Str} {as : List Int} (n : H t = none) : TrAt K (upd H t (.tup (.str u :: as.map V.int))) (.op u as) (.ref t) := by
  rw [TrAt]
  exact ⟨t, rfl, SqT.of upd_same⟩
theorem ok_item (M : Bl mg) (F : At K mg "_law_item" sItem ["_law_urn_here", "_law_q", "_law_n", "_law_words_here"]) {k : Nat} (h : Has P w K mg base k "_law_of" ["_law_urn_here", "_law_items"] (spOf K)) (h2 : Has P w K mg base k "_law_take" ["_law_urn_here", "_law_below"] spTake) :
    Has P w K mg base (k + 1) "_law_item" ["_law_urn_here", "_law_q", "_law_n", "_law_words_here"] (spItem K) := by
  obtain ⟨_, _, cOf⟩ := h
  obtain ⟨_, _, cTake⟩ := h2
  refine Has.by F scItem (fun vs H Q E h => ?_) (fun f cdv A out s H vs Q E hg hr h => ?_)
  · obtain ⟨_, _, _, _, _, rfl, _⟩ := h
    rfl
  obtain ⟨u, ws, p, n, wl, rfl, hU, p0, p1, n0, n1, nw, sq, wne, wle, w7, q⟩ := h
  refine ⟨_, (pss_cons (ps_set (i := 4) scItem.nd rfl (.inl rfl) (pe_cal cOf hg hr (by rfl) (pa_cons (pv 0) (pa_cons (pv 3) pa_nil))))
  (pss_cons (ps_par (i := 5) (j := 6) (by rfl) scItem.nd rfl rfl (by decide) rfl rfl (pa_cons (pe_cal cTake hg hr (by rfl) (pa_cons (pv 0) (pa_cons (pv 2) pa_nil))) (pa_cons (pe_cal cOf hg hr (by rfl) (pa_cons (pv 0) (pa_cons (pe_lst (pa_cons pe_int (pa_cons (pe_op op_mod pe_int (pv 1)) (pa_cons (pe_op op_sub (pv 1) pe_int) (pa_cons (pe_cal cTake hg hr (by rfl) (pa_cons (pv 0) (pa_cons (pv 1) pa_nil))) pa_nil))))) pa_nil))) pa_nil)) (by rfl))
  (pss_cons (ps_if (pt_cmpR op_in_seq (pv 4) (pe_tup (pa_cons pe_str (pa_cons pe_str pa_nil))) (by rfl))
    (pss_one (ps_ret (pe_tup (pa_cons (pv 4) (pa_cons (pv 5) (pa_cons (pv 6) pa_nil))))))
    pss_nil)
  (pss_cons (ps_if (pt_cmpR op_in_seq (pv 4) (pe_tup (pa_cons pe_str (pa_cons pe_str pa_nil))) (by rfl))
    (pss_one (ps_ret (pe_tup (pa_cons (pv 4) (pa_cons (pv 5) pa_nil)))))
    pss_nil)
  (pss_cons (ps_if (pt_cmpR op_eq (pv 2) pe_int (nomark _))
    (pss_one (ps_ret (pe_tup (pa_cons pe_str (pa_cons pe_int (pa_cons (pv 6) pa_nil))))))
    pss_nil)
  (pss_cons (ps_set (i := 7) scItem.nd rfl (.inl rfl) (pe_op op_mod (pe_op op_add (pe_op op_add (pv 5) pe_int) (pe_cal cTake hg hr (by rfl) (pa_cons (pv 0) (pa_cons (pe_op op_sub (pv 2) pe_int) pa_nil)))) (pv 2)))
  (pss_cons (ps_if (pt_cmpR op_eq (pv 4) pe_str (nomark _))
    (pss_one (ps_ret (pe_tup (pa_cons (pv 4) (pa_cons (pv 5) (pa_cons (pv 7) (pa_cons (pe_ifExp (pt_cmpR op_gt (pv 1) pe_int (nomark _)) (pe_op op_add pe_int (pe_op op_mod (pv 6) (pe_op op_sub (pv 1) pe_int))) pe_int) pa_nil)))))))
    pss_nil)
  (pss_one (ps_ret (pe_tup (pa_cons (pv 4) (pa_cons (pv 5) (pa_cons (pv 7) pa_nil))))))))))))), ?_⟩
  -- the word
  refine ⟨_, rfl, _, rfl, u, ws, _, rfl, hU, nw, sq, (by simpa using wne), (by rw [List.length_map]; exact wle), fun x H1 hx u1 b1 => ?_⟩
  obtain ⟨z, hz, rfl⟩ := List.mem_map.mp hx
  -- x and c
  refine ⟨_, rfl, _, rfl, u, n, rfl, u1, by omega, wide_big (by omega) (by omega), fun x H2 x0 x1 u2 b2 => ?_⟩
  refine ⟨_, rfl, _, rfl, 1, p, rfl, rfl, (by show (0 : Int) < p; omega), _, rfl, p, 1, rfl, rfl, _, rfl, _, rfl, u, p, rfl, u2, by omega, wide_big (by omega) (by omega), fun c3 H3 c30 c31 u3 b3 => ?_⟩
  refine ⟨(by show 4 ≤ sizeLine; decide), fun l nl => ?_⟩
  refine ⟨u, l, _, rfl, u3.same (same_new nl), u3.ne nl, SqL.of upd_same, (by intro z; cases z), (by show 4 ≤ 1000; decide), fun c H4 hc u4 b4 => ?_⟩
  have bb : But u H H4 := ((b1.trans b2).trans b3).trans ((But.new nl).trans b4)
  obtain ⟨c, rfl, c0, c1⟩ : ∃ c' : Int, c = .int c' ∧ 0 ≤ c' ∧ c' < p := by
    have m0 := Int.emod_nonneg 1 (show p ≠ 0 by omega)
    have m1 := Int.emod_lt_of_pos 1 (show 0 < p by omega)
    simp only [List.mem_cons, List.not_mem_nil, or_false] at hc
    rcases hc with rfl | rfl | rfl | rfl
    · exact ⟨0, rfl, by omega, by omega⟩
    · exact ⟨1 % p, rfl, m0, m1⟩
    · exact ⟨p - 1, rfl, by omega, by omega⟩
    · exact ⟨c3, rfl, c30, c31⟩
  refine ⟨_, _, rfl, ?_⟩
  -- set, scale
  refine ⟨_, rfl, (by show 2 ≤ sizeLine; decide), fun t1 nt1 => ?_⟩
  refine ⟨t1, _, rfl, .inr (SqT.of upd_same), rfl, rfl, _, rfl, ite2 (fun i1 => ?_) (fun i1 => ?_)⟩
  · have e := inV2.mp i1
    refine ⟨_, rfl, _, rfl, _, rfl, (by show 3 ≤ sizeLine; decide), fun t nt => ?_⟩
    exact q z [x, c] _ _ (.inl ⟨e, x, c, rfl, x0, x1, c0, c1⟩) (.inl hz) (tup_op (as := [x, c]) nt) ((u4.same (same_new nt1)).same (same_new nt)) (bb.trans ((But.new nt1).trans (But.new nt)))
  -- read, write
  refine ⟨_, rfl, (by show 2 ≤ sizeLine; decide), fun t2 nt2 => ?_⟩
  have u6 := (u4.same (same_new (o := .tup [.str "set", .str "scale"]) nt1)).same (same_new (o := .tup [.str "read", .str "write"]) nt2)
  have b6 : But u H _ := bb.trans ((But.new (o := .tup [.str "set", .str "scale"]) nt1).trans (But.new (o := .tup [.str "read", .str "write"]) nt2))
  refine ⟨t2, _, rfl, .inr (SqT.of upd_same), rfl, rfl, _, rfl, ite2 (fun i2 => ?_) (fun i2 => ?_)⟩
  · have e := inV2.mp i2
    refine ⟨_, rfl, _, rfl, (by show 2 ≤ sizeLine; decide), fun t nt => ?_⟩
    exact q z [x] _ _ (.inr (.inl ⟨e, x, rfl, x0, x1⟩)) (.inl hz) (tup_op (as := [x]) nt) (u6.same (same_new nt)) (b6.trans (But.new nt))
  have z1 : ¬ (z = "set" ∨ z = "scale") := fun e => i1 (inV2.mpr e)
  have z2 : ¬ (z = "read" ∨ z = "write") := fun e => i2 (inV2.mpr e)
  -- one register
  refine ⟨_, rfl, rfl, _, rfl, ite2 (fun i3 => ?_) (fun i3 => ?_)⟩
  · have e : n = 1 := V.int.inj (of_decide_eq_true i3)
    refine ⟨_, rfl, (by show 3 ≤ sizeLine; decide), fun t nt => ?_⟩
    exact q "set" [0, c] _ _ (.inl ⟨.inl rfl, 0, c, rfl, by omega, by omega, c0, c1⟩) (.inr rfl) (tup_op (as := [0, c]) nt) (u6.same (same_new nt)) (b6.trans (But.new nt))
  have n2 : n ≠ 1 := fun e => i3 (decide_eq_true (congrArg V.int e))
  -- y
  refine ⟨_, rfl, _, _, rfl, rfl, _, rfl, _, rfl, n, 1, rfl, rfl, u, _, rfl, u6, by omega, wide_big (by omega) (by omega), fun d H7 d0 d1 u7 b7 => ?_⟩
  refine ⟨_, _, rfl, rfl, _, rfl, _, n, rfl, rfl, (by show (0 : Int) < n; omega), ?_⟩
  have y0 := Int.emod_nonneg (x + 1 + d) (show n ≠ 0 by omega)
  have y1 := Int.emod_lt_of_pos (x + 1 + d) (show 0 < n by omega)
  have yx : x ≠ (x + 1 + d) % n := fun e => by
    have h := Int.emod_def (x + 1 + d) n
    by_cases g : x + 1 + d < n
    · rw [Int.emod_eq_of_lt (by omega) g] at e
      omega
    · have h2 : (x + 1 + d) % n = x + 1 + d - n := by
        rw [← Int.sub_emod_right]
        exact Int.emod_eq_of_lt (by omega) (by omega)
      omega
  -- add
  refine ⟨_, rfl, rfl, _, rfl, ite2 (fun i4 => ?_) (fun i4 => ?_)⟩
  · have e : z = "add" := V.str.inj (of_decide_eq_true i4)
    refine ⟨_, rfl, _, rfl, _, rfl, _, rfl, p, 2, rfl, rfl, _, rfl, ite2 (fun i5 => ?_) (fun i5 => ?_)⟩
    · have g : 2 < p := of_decide_eq_true i5
      have m0 := Int.emod_nonneg c (show p - 1 ≠ 0 by omega)
      have m1 := Int.emod_lt_of_pos c (show 0 < p - 1 by omega)
      refine ⟨_, rfl, _, rfl, p, 1, rfl, rfl, c, _, rfl, rfl, (by show (0 : Int) < p - 1; omega), 1, _, rfl, rfl, (by show 4 ≤ sizeLine; decide), fun t nt => ?_⟩
      exact q z [x, (x + 1 + d) % n, 1 + c % (p - 1)] _ _ (.inr (.inr (.inr ⟨e, x, _, _, rfl, x0, x1, y0, y1, yx, by omega, by omega⟩))) (.inl hz) (tup_op (as := [x, (x + 1 + d) % n, 1 + c % (p - 1)]) nt) (u7.same (same_new nt)) ((b6.trans b7).trans (But.new nt))
    · refine ⟨(by show 4 ≤ sizeLine; decide), fun t nt => ?_⟩
      exact q z [x, (x + 1 + d) % n, 1] _ _ (.inr (.inr (.inr ⟨e, x, _, _, rfl, x0, x1, y0, y1, yx, by omega, by omega⟩))) (.inl hz) (tup_op (as := [x, (x + 1 + d) % n, 1]) nt) (u7.same (same_new nt)) ((b6.trans b7).trans (But.new nt))
  · have e : z ≠ "add" := fun e => i4 (decide_eq_true (congrArg V.str e))
    have hz7 := w7 z hz
    have e2 : z = "copy" ∨ z = "swap" := by
      simp only [W7, List.mem_cons, List.not_mem_nil, or_false] at hz7
      rcases hz7 with h | h | h | h | h | h | h
      · exact absurd (.inl h) z1
      · exact .inl h
      · exact absurd h e
      · exact absurd (.inr h) z1
      · exact .inr h
      · exact absurd (.inl h) z2
      · exact absurd (.inr h) z2
    refine ⟨_, rfl, _, rfl, _, rfl, (by show 3 ≤ sizeLine; decide), fun t nt => ?_⟩
    exact q z [x, (x + 1 + d) % n] _ _ (.inr (.inr (.inl ⟨e2, x, _, rfl, x0, x1, y0, y1, yx⟩))) (.inl hz) (tup_op (as := [x, (x + 1 + d) % n]) nt) (u7.same (same_new nt)) ((b6.trans b7).trans (But.new nt))
end
end K12
set_option Elab.async false
set_option linter.all false
set_option maxRecDepth 100000
set_option pp.maxSteps 500
set_option pp.deepTerms.threshold 8
set_option pp.deepTerms false
namespace K12
open PySem PySem.Spec PyProof.Rows L2 Lj
section
variable {P : Program} {w : World} {K : PySem.W.Frag} {mg : Str → Option Value} {base : Heap}
theorem ok_body1 (M : Bl mg) (F : At K mg "_law_body" sBody ["_law_urn_here", "_law_q", "_law_n", "_law_words_here", "_law_length", "_law_deep", "_law_rounds"]) {d k : Nat}
    (h : Has P w K mg base k "_law_of" ["_law_urn_here", "_law_items"] (spOf K)) (h2 : Has P w K mg base k "_law_take" ["_law_urn_here", "_law_below"] spTake)
    (h3 : Has P w K mg base k "_law_item" ["_law_urn_here", "_law_q", "_law_n", "_law_words_here"] (spItem K)) (h4 : Has P w K mg base k "_law_body" ["_law_urn_here", "_law_q", "_law_n", "_law_words_here", "_law_length", "_law_deep", "_law_rounds"] (spBody K d)) :
    Has P w K mg base (k + 1) "_law_body" ["_law_urn_here", "_law_q", "_law_n", "_law_words_here", "_law_length", "_law_deep", "_law_rounds"] (spBody K (d + 1)) := by
  obtain ⟨_, _, cOf⟩ := h
  obtain ⟨_, _, cTake⟩ := h2
  obtain ⟨_, _, cItem⟩ := h3
  obtain ⟨_, _, cBody⟩ := h4
  refine Has.by F scBody (fun vs H Q E h => ?_) (fun f cdv A out s H vs Q E hg hr h => ?_)
  · obtain ⟨_, _, _, _, _, _, _, _, _, rfl, _⟩ := h
    rfl
  obtain ⟨u, ws, rs, p, n, wl, rl, l, e, rfl, hU, p0, p1, n0, n1, nw, sqw, wne, wle, w7, nr, sqr, rne, rle, l1, ed, q⟩ := h
  refine ⟨_, (pss_cons (ps_set (i := 7) scBody.nd rfl (.inl rfl) (pe_lst pa_nil))
  (pss_cons (ps_for PassesOwn.never rfl (pi_range1 (by rfl) M.range_ (pa_cons (pe_cal cTake hg hr (by rfl) (pa_cons (pv 0) (pa_cons (pe_op op_add (pv 4) pe_int) pa_nil))) pa_nil)) (pg_name (i := 8) scBody.nd rfl (.inl rfl))
    (pss_one (ps_if (PW.pt (pw_and (pt_cmpR op_gt (pv 5) pe_int (nomark _)) (pw_and1 (pt_cmpR op_eq (pe_cal cTake hg hr (by rfl) (pa_cons (pv 0) (pa_cons pe_int pa_nil))) pe_int (nomark _)))))
    (pss_cons (ps_set (i := 9) scBody.nd rfl (.inl rfl) (pe_cal cBody hg hr (by rfl) (pa_cons (pv 0) (pa_cons (pv 1) (pa_cons (pv 2) (pa_cons (pv 3) (pa_cons (pe_op op_fdiv (pv 4) pe_int) (pa_cons (pe_op op_sub (pv 5) pe_int) (pa_cons (pv 6) pa_nil)))))))))
  (pss_one (ps_expr (pe_bm PySem.F.plainAttrs_list PySem.F.slot_list_append PySem.F.type_list_append mt_append (pv 7) (pa_cons (pe_tup (pa_cons pe_str (pa_cons (pe_cal cOf hg hr (by rfl) (pa_cons (pv 0) (pa_cons (pv 6) pa_nil))) (pa_cons (pv 9) pa_nil)))) pa_nil)))))
    (pss_one (ps_expr (pe_bm PySem.F.plainAttrs_list PySem.F.slot_list_append PySem.F.type_list_append mt_append (pv 7) (pa_cons (pe_cal cItem hg hr (by rfl) (pa_cons (pv 0) (pa_cons (pv 1) (pa_cons (pv 2) (pa_cons (pv 3) pa_nil))))) pa_nil)))))))
  (pss_one (ps_ret (pe_callTy call_tuple_of (by rfl) M.tuple_ (by decide +kernel) (pa_cons (pv 7) pa_nil)))))), ?_⟩
  refine ⟨Nat.zero_le _, fun fo nfo => ?_⟩
  have nfu : fo ≠ u := hU.ne nfo
  refine ⟨_, rfl, _, rfl, (l : Int), 1, rfl, rfl, u, _, rfl, hU.same (same_new nfo), by omega, wide_big (by omega) (by omega), fun m H1 m0 m1 u1 b1 => ?_⟩
  refine ⟨m, rfl, by omega, by omega, ?_⟩
  refine for_range (lo := 0) (n := m.toNat) (fun i σ H' => ∃ y8 y9 bs us, σ = [some (.ref u), some (.int p), some (.int n), some (.ref ws), some (.int (l : Int)), some (.int (e : Int)), some (.ref rs), some (.ref fo), y8, y9] ∧ Urn H' u ∧ But u H H' ∧ H' fo = some (.lst us) ∧
    TrsAt K H' bs us ∧ bs.length = i ∧ mades (fun w as => GoodOp p n w as ∧ (w ∈ wl ∨ w = "set")) (fun k => k ∈ rl) bs l e) ⟨none, none, [], [], rfl, u1, (But.new nfo).trans b1, b1 _ _ nfu upd_same, TrsAt.nil, rfl, mades_nil⟩ ?_ ?_
  · rintro i σ H2 hi ⟨y8, y9, bs, us, rfl, u2, b2, h2, tr2, hlen, hmad⟩
    refine ⟨_, rfl, (e : Int), 0, rfl, rfl, _, rfl, ite2 (fun c => ?_) (fun c => ?_)⟩
    · have c' : (0 : Int) < (e : Int) := of_decide_eq_true c
      refine ⟨_, rfl, u, 4, rfl, u2, by decide, wide_big (by decide) (by decide), fun z H3 z0 z1 u3 b3 => ?_⟩
      have h3 := b3 _ _ nfu h2
      have tr3 := TrsAt.kt (u2.kt b3) _ _ tr2
      have b23 := b2.trans b3
      refine ⟨rfl, _, rfl, ite2 (fun c2 => ?_) (fun c2 => ?_)⟩
      · have e1 : ((l : Int) / 2) = ((l / 2 : Nat) : Int) := by omega
        have e2 : ((e : Int) - 1) = ((e - 1 : Nat) : Int) := by omega
        refine ⟨_, rfl, _, rfl, _, rfl, _, rfl, _, rfl, (l : Int), 2, rfl, rfl, ⟨by decide, by decide⟩, _, rfl, (e : Int), 1, rfl, rfl, _, rfl, u, ws, rs, p, n, wl, rl, l / 2, e - 1, ?_, u3, p0, p1, n0, n1, nw, b23.seq nw sqw, wne, wle, w7, nr, b23.seq nr sqr, rne, rle, by omega, by omega, fun b' v' H4 len4 mad4 body4 u4 b4 => ?_⟩
        · show [V.ref u, V.int p, V.int n, V.ref ws, V.int ((l : Int) / 2), V.int ((e : Int) - 1), V.ref rs] = _
          rw [e1, e2]
        have h4 := b4 _ _ nfu h3
        have b24 := b23.trans b4
        refine ⟨_, rfl, .inl ⟨rfl, _, SqL.of h4⟩, _, rfl, _, rfl, u, rs, _, rfl, u4, nr, b24.seq nr sqr, (by simpa using rne), (by rw [List.length_map]; exact rle), fun x H5 hx u5 b5 => ?_⟩
        obtain ⟨k', hk, rfl⟩ := List.mem_map.mp hx
        obtain ⟨c4, vs4, rfl, sq4, tr4⟩ := body4
        refine ⟨_, rfl, (by show 3 ≤ sizeLine; decide), fun t nt => ?_⟩
        have h5 := b5 _ _ nfu h4
        have h6 : (upd H5 t (.tup [.str "loop", .int k', .ref c4])) fo = some (.lst us) := same_new nt _ _ h5
        refine ⟨fo, _, _, rfl, rfl, h6, ?_, ?_⟩
        · rw [tr2.length, hlen]
          exact small1000 (by omega)
        · have kt6 : Kt (upd H5 t (.tup [.str "loop", .int k', .ref c4])) (upd (upd H5 t (.tup [.str "loop", .int k', .ref c4])) fo (.lst (us ++ [.ref t]))) := Kt.but But.upd h6
          have kt5 : Kt H5 (upd (upd H5 t (.tup [.str "loop", .int k', .ref c4])) fo (.lst (us ++ [.ref t]))) := (Kt.same (same_new nt)).trans kt6
          have kt4 := (u4.kt b5).trans kt5
          have kt3 := (u3.kt b4).trans kt4
          have ntf : t ≠ fo := (ne_of_none h5 nt).symm
          refine ⟨_, _, bs ++ [.loop k' b'], us ++ [.ref t], rfl, (u5.same (same_new nt)).but (q := fo) But.upd nfu.symm, fun x o hx ho => ?_, upd_same, (TrsAt.kt kt3 _ _ tr3).append (TrsAt.one ?_), by rw [List.length_append, hlen]; rfl, mades_append hmad (mades_one ?_)⟩
          · rw [upd_ne (ne_of_none ho nfo)]
            exact same_new nt _ _ (b5 _ _ hx (b24 _ _ hx ho))
          · rw [TrAt]
            exact ⟨t, c4, vs4, rfl, kt6.sq (SqT.of upd_same), kt4.sq sq4, TrsAt.kt kt4 _ _ tr4⟩
          · obtain ⟨e', rfl⟩ : ∃ e', e = e' + 1 := ⟨e - 1, by omega⟩
            rw [Tr.made]
            exact ⟨hk, len4, mad4⟩
      · refine ⟨_, rfl, .inl ⟨rfl, _, SqL.of h3⟩, _, rfl, _, rfl, _, rfl, _, rfl, u, ws, p, n, wl, rfl, u3, p0, p1, n0, n1, nw, b23.seq nw sqw, wne, wle, w7, fun w' as v H9 good inl tr u9 b9 => ?_⟩
        refine ⟨fo, _, _, rfl, rfl, b9 _ _ nfu h3, ?_, ?_⟩
        · rw [tr3.length, hlen]
          exact small1000 (by omega)
        · have kt9 : Kt H9 (upd H9 fo (.lst (us ++ [v]))) := Kt.but But.upd (b9 _ _ nfu h3)
          refine ⟨_, _, bs ++ [.op w' as], us ++ [v], rfl, u9.but (q := fo) But.upd nfu.symm, fun x o hx ho => ?_, upd_same, (TrsAt.kt ((u3.kt b9).trans kt9) _ _ tr3).append (TrsAt.one (TrAt.kt kt9 _ _ tr)), by rw [List.length_append, hlen]; rfl, mades_append hmad (mades_one (by rw [Tr.made]; exact ⟨good, inl⟩))⟩
          rw [upd_ne (ne_of_none ho nfo)]
          exact b9 _ _ hx (b23 _ _ hx ho)
    · refine ⟨_, rfl, .inl ⟨rfl, _, SqL.of h2⟩, _, rfl, _, rfl, _, rfl, _, rfl, u, ws, p, n, wl, rfl, u2, p0, p1, n0, n1, nw, b2.seq nw sqw, wne, wle, w7, fun w' as v H9 good inl tr u9 b9 => ?_⟩
      refine ⟨fo, _, _, rfl, rfl, b9 _ _ nfu h2, ?_, ?_⟩
      · rw [tr2.length, hlen]
        exact small1000 (by omega)
      · have kt9 : Kt H9 (upd H9 fo (.lst (us ++ [v]))) := Kt.but But.upd (b9 _ _ nfu h2)
        refine ⟨_, _, bs ++ [.op w' as], us ++ [v], rfl, u9.but (q := fo) But.upd nfu.symm, fun x o hx ho => ?_, upd_same, (TrsAt.kt ((u2.kt b9).trans kt9) _ _ tr2).append (TrsAt.one (TrAt.kt kt9 _ _ tr)), by rw [List.length_append, hlen]; rfl, mades_append hmad (mades_one (by rw [Tr.made]; exact ⟨good, inl⟩))⟩
        rw [upd_ne (ne_of_none ho nfo)]
        exact b9 _ _ hx (b2 _ _ hx ho)
  · rintro σ H2 ⟨y8, y9, bs, us, rfl, u2, b2, h2, tr2, hlen, hmad⟩
    refine ⟨_, rfl, fo, us, rfl, .inl ⟨SqL.of h2, fun t nt => ?_⟩⟩
    exact q bs (.ref t) _ (by omega) hmad ⟨t, us, rfl, SqT.of upd_same, TrsAt.kt (Kt.same (same_new nt)) _ _ tr2⟩ (u2.same (same_new nt)) (b2.trans (But.new nt))
theorem ok_body (M : Bl mg) (F : At K mg "_law_body" sBody ["_law_urn_here", "_law_q", "_law_n", "_law_words_here", "_law_length", "_law_deep", "_law_rounds"]) {k : Nat}
    (h : Has P w K mg base k "_law_of" ["_law_urn_here", "_law_items"] (spOf K)) (h2 : Has P w K mg base k "_law_take" ["_law_urn_here", "_law_below"] spTake)
    (h3 : Has P w K mg base k "_law_item" ["_law_urn_here", "_law_q", "_law_n", "_law_words_here"] (spItem K)) :
    ∀ d, Has P w K mg base (k + d) "_law_body" ["_law_urn_here", "_law_q", "_law_n", "_law_words_here", "_law_length", "_law_deep", "_law_rounds"] (spBody K d)
  | 0 => Has.none F fun vs H Q E ⟨_, _, _, _, _, _, _, _, _, _, _, _, _, _, _, _, _, _, _, _, _, _, _, _, _, h, _⟩ => absurd h (Nat.not_lt_zero _)
  | d + 1 => ok_body1 M F (h.up (Nat.le_add_right _ _)) (h2.up (Nat.le_add_right _ _)) (h3.up (Nat.le_add_right _ _)) (ok_body M F h h2 h3 d)
/-! ### what is executed -/
theorem trs_flat {H : Hp} {b : List Tr} {vs : List V} (h : TrsAt K H b vs) : ∀ n : Nat, TrsAt K H (List.replicate n b).flatten (List.replicate n vs).flatten
  | 0 => TrsAt.nil
  | n + 1 => by
    rw [List.replicate_succ, List.flatten_cons, List.replicate_succ, List.flatten_cons]
    exact h.append (trs_flat h n)
theorem rep_succ {α : Type} (n : Nat) (xs : List α) : (List.replicate (n + 1) xs).flatten = (List.replicate n xs).flatten ++ xs := by
  rw [List.replicate_succ', List.flatten_append, List.flatten_cons, List.flatten_nil, List.append_nil]
theorem flat_take {b : List Tr} {i : Nat} {t : Tr} (e : b[i]? = some t) : exs (b.take (i + 1)) = exs (b.take i) ++ t.ex := by
  rw [exs_map, exs_map, map_next e, List.flatten_append, List.flatten_cons, List.flatten_nil, List.append_nil]
theorem ex_mem {b : List Tr} {i : Nat} {t : Tr} (e : b[i]? = some t) : ∀ x ∈ t.ex, x ∈ exs b := by
  intro x m
  rw [exs_map]
  exact List.mem_flatten.mpr ⟨t.ex, List.mem_map.mpr ⟨t, List.mem_of_getElem? e, rfl⟩, m⟩
theorem ex_le {b : List Tr} {i : Nat} {t : Tr} (e : b[i]? = some t) : (exs (b.take i)).length + t.ex.length ≤ (exs b).length := by
  have h : exs b = exs (b.take (i + 1)) ++ exs (b.drop (i + 1)) := by
    rw [exs_map, exs_map, exs_map, ← List.flatten_append, ← List.map_append, List.take_append_drop]
  rw [h, flat_take e, List.length_append, List.length_append]
  omega
theorem ok_exec1 (M : Bl mg) (F : At K mg "_law_executed" sExecuted ["_law_tree"]) {d k : Nat} (h : Has P w K mg base k "_law_executed" ["_law_tree"] (spExec K d)) : Has P w K mg base (k + 1) "_law_executed" ["_law_tree"] (spExec K (d + 1)) := by
  obtain ⟨_, _, cExecuted⟩ := h
  refine Has.by F scExecuted (fun vs H Q E h => ?_) (fun f cdv A out s H vs Q E hg hr h => ?_)
  · obtain ⟨_, _, rfl, _⟩ := h
    rfl
  obtain ⟨v, b, rfl, ⟨c, us, rfl, sq, r⟩, ok, fin, big, q⟩ := h
  refine ⟨_, (pss_cons (ps_set (i := 1) scExecuted.nd rfl (.inl rfl) (pe_lst pa_nil))
  (pss_cons (ps_for PassesOwn.never rfl (pi_tup (pv 0)) (pg_name (i := 2) scExecuted.nd rfl (.inl rfl))
    (pss_one (ps_if (pt_cmpR op_eq (pe_ix ix_tup (pv 2) pe_int (fun _ _ => rfl)) pe_str (nomark _))
    (pss_cons (ps_set (i := 3) scExecuted.nd rfl (.inl rfl) (pe_cal cExecuted hg hr (by rfl) (pa_cons (pe_ix ix_tup (pv 2) pe_int (fun _ _ => rfl)) pa_nil)))
  (pss_one (ps_for PassesOwn.never rfl (pi_range1 (by rfl) M.range_ (pa_cons (pe_op op_mul (pe_ix ix_tup (pv 2) pe_int (fun _ _ => rfl)) (pe_callTy call_int1 (by rfl) M.int_ (by decide +kernel) (pa_cons (pe_cmpR (op_neD hr.units) (pv 3) (pe_lst pa_nil) (nomark _)) pa_nil))) pa_nil)) (pg_name (i := 4) scExecuted.nd rfl (.inl rfl))
    (pss_one (ps_expr (pe_bm PySem.F.plainAttrs_list PySem.F.slot_list_extend PySem.F.type_list_extend mt_extend (pv 1) (pa_cons (pv 3) pa_nil)))))))
    (pss_one (ps_expr (pe_bm PySem.F.plainAttrs_list PySem.F.slot_list_append PySem.F.type_list_append mt_append (pv 1) (pa_cons (pv 2) pa_nil)))))))
  (pss_one (ps_ret (pv 1))))), ?_⟩
  refine ⟨Nat.zero_le _, fun fo nfo => ?_⟩
  refine ⟨_, rfl, c, rfl, ⟨_, (Kt.same (same_new nfo)).sq sq⟩, ?_⟩
  refine for_tup (xs := us) (fun i σ H' => ∃ y2 y3 y4 zs, σ = [some (.ref c), some (.ref fo), y2, y3, y4] ∧ Same H H' ∧ H' fo = some (.lst zs) ∧ TrsAt K H' (exs (b.take i)) zs) ⟨none, none, none, [], rfl, same_new nfo, upd_same, TrsAt.nil⟩ ?_ ?_ ?_
  · rintro i σ H' _ ⟨_, _, _, _, _, h, _⟩
    exact (Kt.same h).sq sq
  · rintro i x σ H2 hx ⟨y2, y3, y4, zs, rfl, s2, h2, t2⟩
    obtain ⟨t, ht, hT⟩ := r.get hx
    have hT := TrAt.kt (Kt.same s2) t x hT
    have bd := ex_le ht
    rw [flat_take ht]
    cases t with
    | op z as =>
      have hT0 := hT
      rw [TrAt] at hT
      obtain ⟨a, rfl, sq3⟩ := hT
      refine ⟨_, rfl, a, _, 0, .str z, rfl, rfl, sq3, at0, rfl, _, rfl, iteN (fun e => okB_op ok ht (V.str.inj e)) ?_⟩
      refine ⟨_, rfl, .inl ⟨rfl, _, SqL.of h2⟩, _, rfl, fo, _, _, rfl, rfl, h2, ?_, ?_⟩
      · rw [t2.length, sizeLine_eq]
        rw [Tr.ex] at bd
        have : [Tr.op z as].length = 1 := rfl
        omega
      · have kt : Kt H2 (upd H2 fo (.lst (zs ++ [.ref a]))) := Kt.but But.upd h2
        exact ⟨_, _, _, _, rfl, same_upd s2 nfo, upd_same, (TrsAt.kt kt _ _ t2).append (by rw [Tr.ex]; exact TrsAt.one (TrAt.kt kt _ _ hT0))⟩
    | loop m b' =>
      rw [TrAt] at hT
      obtain ⟨a, g, ws, rfl, sq3, sq4, r2⟩ := hT
      obtain ⟨c0, c1, ok2⟩ := okB_loop ok ht
      have fin2 := fines_get fin ht
      rw [Tr.fine] at fin2
      have ops2 := fines_ops b' fin2.2
      have bd2 : m.toNat * (exs b').length ≤ 100000 := by
        rw [Tr.ex, flat_len] at bd
        omega
      refine ⟨_, rfl, a, _, 0, .str "loop", rfl, rfl, sq3, rfl, rfl, _, rfl, iteP rfl ?_⟩
      refine ⟨_, rfl, a, _, 2, .ref g, rfl, rfl, sq3, rfl, _, b', rfl, ⟨g, ws, rfl, sq4, r2⟩, ok2, fin2.2, fin2.1, fun H3 l2 us2 s3 n3 h3 t3 => ?_⟩
      have nl2 : fo ≠ l2 := ne_of_none h2 n3
      refine ⟨_, rfl, a, _, 1, .int m, rfl, rfl, (Kt.same s3).sq sq3, rfl, _, rfl, Nat.zero_le _, fun e ne => ?_⟩
      have se : Same H3 (upd H3 e (.lst [])) := same_new ne
      refine ⟨.list ((exs b').map Tr.dat), .list [], .lst (SqL.of (se _ _ h3)) (Ops.dp ops2 (TrsAt.kt (Kt.same se) _ _ t3)), .lst (SqL.of upd_same) .nil, ops2.shaped, shaped_nil, .inr ⟨_, rfl, m, _, rfl, rfl, .inl ⟨by omega, by omega⟩, ?_⟩⟩
      obtain ⟨n, hn, hf, hl⟩ : ∃ n : Nat, m * (if (!PyData.eqv (.list ((exs b').map Tr.dat)) (.list [])) = true then 1 else 0) = (n : Int) ∧ (List.replicate n (exs b')).flatten = (List.replicate m.toNat (exs b')).flatten ∧ n ≤ 100000 := by
        rw [eqv_nil]
        cases hx : exs b' with
        | nil =>
          refine ⟨0, ?_, ?_, by decide⟩
          · show m * 0 = _
            rw [Int.mul_zero]
            rfl
          · rw [show (List.replicate m.toNat ([] : List Tr)).flatten = [] from List.flatten_replicate_nil]
            rfl
        | cons y ys =>
          refine ⟨m.toNat, ?_, rfl, ?_⟩
          · show m * 1 = _
            omega
          · rw [hx, List.length_cons] at bd2
            exact Nat.le_trans (Nat.le_mul_of_pos_right _ (Nat.succ_pos _)) bd2
      have hnl : n * (exs b').length ≤ 100000 := by
        have := congrArg List.length hf
        rw [flat_len, flat_len] at this
        omega
      refine ⟨(n : Int), ?_, by omega, by omega, ?_⟩
      · show [V.int (m * _)] = _
        rw [hn]
      rw [show ((n : Int)).toNat = n from rfl]
      have zl := t2.length
      refine for_range (lo := 0) (n := n) (fun j σ H' => ∃ y4, σ = [some (.ref c), some (.ref fo), some (.ref a), some (.ref l2), y4] ∧ Same H H' ∧ H' fo = some (.lst (zs ++ (List.replicate j us2).flatten)) ∧ H' l2 = some (.lst us2) ∧ TrsAt K H' (exs (b.take i)) zs ∧ TrsAt K H' (exs b') us2)
        ⟨_, rfl, (s2.trans s3).trans se, ?_, se _ _ h3, TrsAt.kt (Kt.same (s3.trans se)) _ _ t2, TrsAt.kt (Kt.same se) _ _ t3⟩ ?_ ?_
      · rw [List.replicate_zero, List.flatten_nil, List.append_nil]
        exact se _ _ (s3 _ _ h2)
      · rintro j σ H4 hj ⟨y4, rfl, s4, h4, h5, t4, t5⟩
        have e5 := t5.length
        refine ⟨_, rfl, .inl ⟨rfl, _, SqL.of h4⟩, _, rfl, fo, l2, _, us2, rfl, rfl, h4, h5, ?_, ?_⟩
        · rw [List.length_append, flat_len, zl, e5, sizeLine_eq]
          have : (j + 1) * (exs b').length ≤ n * (exs b').length := Nat.mul_le_mul_right _ hj
          rw [Nat.succ_mul] at this
          omega
        · have kt : Kt H4 (upd H4 fo (.lst ((zs ++ (List.replicate j us2).flatten) ++ us2))) := Kt.but But.upd h4
          refine ⟨_, rfl, same_upd s4 nfo, ?_, ?_, TrsAt.kt kt _ _ t4, TrsAt.kt kt _ _ t5⟩
          · rw [upd_same, rep_succ, List.append_assoc]
          · rw [upd_ne nl2.symm]
            exact h5
      · rintro σ H4 ⟨y4, rfl, s4, h4, h5, t4, t5⟩
        refine ⟨_, _, _, _, rfl, s4, h4, t4.append ?_⟩
        rw [Tr.ex, ← hf]
        exact trs_flat t5 n
  · rintro σ H2 ⟨y2, y3, y4, zs, rfl, s2, h2, t2⟩
    rw [r.length, take_all] at t2
    exact ⟨_, rfl, q H2 fo zs s2 nfo h2 t2⟩
theorem ok_exec (M : Bl mg) (F : At K mg "_law_executed" sExecuted ["_law_tree"]) : ∀ d, Has P w K mg base d "_law_executed" ["_law_tree"] (spExec K d)
  | 0 => Has.none F fun vs H Q E ⟨_, _, _, _, h, _⟩ => h
  | d + 1 => ok_exec1 M F (ok_exec M F d)
end
section
variable {P : Program} {w : World} {K : PySem.W.Frag} {mg : Str → Option Value} {base : Heap}
theorem ok_tup (M : Bl mg) (F : At K mg "_law_tuple" sTuple ["_law_urn_here", "_law_q", "_law_count"]) {k : Nat} (h1 : Has P w K mg base k "_law_of" ["_law_urn_here", "_law_items"] (spOf K)) (h2 : Has P w K mg base k "_law_take" ["_law_urn_here", "_law_below"] spTake) :
    Has P w K mg base (k + 1) "_law_tuple" ["_law_urn_here", "_law_q", "_law_count"] (spTupU K) := by
  obtain ⟨_, _, cOf⟩ := h1
  obtain ⟨_, _, cTake⟩ := h2
  refine Has.by F scTuple (fun vs H Q E h => ?_) (fun f cdv A out s H vs Q E hg hr h => ?_)
  · obtain ⟨_, _, _, rfl, _⟩ := h
    rfl
  obtain ⟨u, q, n, rfl, hU, q2, q7, hn, qq⟩ := h
  refine ⟨_, (pss_one (ps_ret (pe_callTy call_tuple_of (by rfl) M.tuple_ (by decide +kernel) (pa_cons (pe_lc (own := [("_law_turn", 3)]) (g := gName 3) (by rfl) scTuple.nd (pi_range1 (by rfl) M.range_ (pa_cons (pv 2) pa_nil)) (blkOk_by (own := [("_law_turn", 3)]) (N := ["_law_urn_here", "_law_q", "_law_count", "_law_turn"]) (sc := defScope sTuple) (by decide +kernel)) (fun _ _ _ _ _ => (pg_name (i := 3) scTuple.nd rfl (.inl rfl))) (fun _ _ _ _ _ => pts_nil) (fun _ _ _ _ _ => (pe_cal cOf hg hr (by rfl) (pa_cons (pv 0) (pa_cons (pe_lst (pa_cons pe_int (pa_cons pe_int (pa_cons (pe_op op_sub (pv 1) pe_int) (pa_cons (pe_cal cTake hg hr (by rfl) (pa_cons (pv 0) (pa_cons (pv 1) pa_nil))) (pa_cons (pe_cal cTake hg hr (by rfl) (pa_cons (pv 0) (pa_cons (pv 1) pa_nil))) pa_nil)))))) pa_nil))))) pa_nil)))), ?_⟩
  refine ⟨_, rfl, _, rfl, by omega, by omega, fun D nD => ?_⟩
  have nDu : D ≠ u := hU.ne nD
  refine lc_range (lo := 0) (n := n) (fun i H' => ∃ ns : List Int, H' D = some (.lst (ns.map V.int)) ∧ ns.length = i ∧ In q ns ∧ Urn H' u ∧ But u H H') ⟨[], upd_same, rfl, (fun a m => absurd m List.not_mem_nil), hU.same (same_new nD), But.new nD⟩ ?_ ?_
  · rintro i H1 hi ⟨ns, e1, e2, e3, e4, e5⟩
    refine ⟨rfl, _, rfl, _, rfl, _, _, rfl, rfl, ?_⟩
    refine ⟨_, rfl, _, rfl, u, q, rfl, e4, by omega, wide_big (by omega) (by omega), fun a H2 a0 a1 u2 b2 => ?_⟩
    refine ⟨_, rfl, _, rfl, u, q, rfl, u2, by omega, wide_big (by omega) (by omega), fun b H3 b0 b1 u3 b3 => ?_⟩
    refine ⟨(by show 5 ≤ sizeLine; decide), fun l nl => ?_⟩
    have sl := same_new (o := .lst (([0, 1, q - 1, a, b] : List Int).map V.int)) nl
    have e1' := (b3 _ _ nDu (b2 _ _ nDu e1))
    have nlD : D ≠ l := ne_of_none e1' nl
    refine ⟨u, l, ([0, 1, q - 1, a, b] : List Int).map V.int, rfl, u3.same sl, u3.ne nl, SqL.of upd_same, List.cons_ne_nil _ _, (by show 5 ≤ 1000; decide), fun x H4 mx u4 b4 => ?_⟩
    obtain ⟨z, mz, rfl⟩ := List.mem_map.mp mx
    have zb : 0 ≤ z ∧ z < q := by
      simp only [List.mem_cons, List.not_mem_nil, or_false] at mz
      omega
    have e1'' := b4 _ _ nDu (sl _ _ e1')
    refine ⟨_, e1'', ?_, ns ++ [z], ?_, by rw [List.length_append, e2]; rfl, fun y my => ?_, u4.but (q := D) But.upd nDu.symm, fun y o ne ho => ?_⟩
    · rw [List.length_map, e2, sizeLine_eq]
      omega
    · rw [upd_same, List.map_append]
      rfl
    · rcases List.mem_append.mp my with my | my
      · exact e3 y my
      · rw [List.mem_singleton.mp my]
        exact zb
    · rw [upd_ne (ne_of_none ho nD)]
      exact b4 _ _ ne (sl _ _ (b3 _ _ ne (b2 _ _ ne (e5 _ _ ne ho))))
  · rintro H1 ⟨ns, e1, e2, e3, e4, e5⟩
    refine ⟨D, _, rfl, .inl ⟨SqL.of e1, fun t nt => ?_⟩⟩
    have st := same_new (o := .tup (ns.map V.int)) nt
    exact qq ns _ t e2 e3 (SqT.of upd_same) (e4.same st) (e5.trans (But.same st))
end
end K12
set_option Elab.async false
set_option linter.all false
set_option maxRecDepth 100000
set_option pp.maxSteps 500
set_option pp.deepTerms.threshold 8
set_option pp.deepTerms false
namespace K12
open PySem PySem.Spec PyProof.Rows L2 Lj
section
variable {P : Program} {w : World} {K : PySem.W.Frag} {mg : Str → Option Value} {base : Heap}
/-! ### the law's own step -/
def spAft (K : PySem.W.Frag) : Sp := fun vs H Q _ => ∃ (p n x : Int) (v : V) (z : Str) (as r : List Int) (rg : Addr), vs = [.int p, v, .ref rg, .int x] ∧ TrAt K H (.op z as) v ∧ GoodOp p n z as ∧ 2 ≤ p ∧ p ≤ 10007 ∧ SqT K H rg (r.map V.int) ∧ (r.length : Int) = n ∧ n ≤ 8 ∧ In p r ∧
  ∀ H' t, Same H H' → SqT K H' t ((aft p z as r x).map V.int) → Q (.ref t) H'
theorem ok_after (M : Bl mg) (F : At K mg "_law_after" sAfter ["_law_q", "_law_item_here", "_law_regs", "_law_value"]) {k : Nat} : Has P w K mg base (k + 1) "_law_after" ["_law_q", "_law_item_here", "_law_regs", "_law_value"] (spAft K) := by
  refine Has.by F scAfter (fun vs H Q E h => ?_) (fun f cdv A out s H vs Q E hg hr h => ?_)
  · obtain ⟨_, _, _, _, _, _, _, _, rfl, _⟩ := h
    rfl
  obtain ⟨p, n, vx, v, z, as, r, rg, rfl, hT, go, p0, p1, sq, rl, n8, ir, q⟩ := h
  rw [TrAt] at hT
  obtain ⟨a, rfl, sa⟩ := hT
  refine ⟨_, (pss_cons (ps_par (i := 4) (j := 5) (by rfl) scAfter.nd rfl rfl (by decide) rfl rfl (pa_cons (pe_callTy call_list_of (by rfl) M.list_ (by decide +kernel) (pa_cons (pv 2) pa_nil)) (pa_cons (pe_ix ix_tup (pv 1) pe_int (fun _ _ => rfl)) pa_nil)) (by rfl))
  (pss_cons (ps_if (pt_cmpR op_eq (pe_ix ix_tup (pv 1) pe_int (fun _ _ => rfl)) pe_str (nomark _))
    (pss_one (ps_asg (pe_ix ix_tup (pv 1) pe_int (fun _ _ => rfl)) (pg_sub (pv 4) (pv 5) set_list)))
    pss_nil)
  (pss_cons (ps_if (pt_cmpR op_eq (pe_ix ix_tup (pv 1) pe_int (fun _ _ => rfl)) pe_str (nomark _))
    (pss_one (ps_asg (pe_ix ix_tup (pv 2) (pe_ix ix_tup (pv 1) pe_int (fun _ _ => rfl)) (fun _ _ => rfl)) (pg_sub (pv 4) (pv 5) set_list)))
    pss_nil)
  (pss_cons (ps_if (pt_cmpR op_eq (pe_ix ix_tup (pv 1) pe_int (fun _ _ => rfl)) pe_str (nomark _))
    (pss_one (ps_asg (pe_op op_mod (pe_op op_add (pe_ix ix_tup (pv 2) (pv 5) (fun _ _ => rfl)) (pe_op op_mul (pe_ix ix_tup (pv 1) pe_int (fun _ _ => rfl)) (pe_ix ix_tup (pv 2) (pe_ix ix_tup (pv 1) pe_int (fun _ _ => rfl)) (fun _ _ => rfl)))) (pv 0)) (pg_sub (pv 4) (pv 5) set_list)))
    pss_nil)
  (pss_cons (ps_if (pt_cmpR op_eq (pe_ix ix_tup (pv 1) pe_int (fun _ _ => rfl)) pe_str (nomark _))
    (pss_one (ps_asg (pe_op op_mod (pe_op op_mul (pe_ix ix_tup (pv 2) (pv 5) (fun _ _ => rfl)) (pe_ix ix_tup (pv 1) pe_int (fun _ _ => rfl))) (pv 0)) (pg_sub (pv 4) (pv 5) set_list)))
    pss_nil)
  (pss_cons (ps_if (pt_cmpR op_eq (pe_ix ix_tup (pv 1) pe_int (fun _ _ => rfl)) pe_str (nomark _))
    (pss_one (ps_asg (pe_tup (pa_cons (pe_ix ix_tup (pv 2) (pe_ix ix_tup (pv 1) pe_int (fun _ _ => rfl)) (fun _ _ => rfl)) (pa_cons (pe_ix ix_tup (pv 2) (pv 5) (fun _ _ => rfl)) pa_nil))) (pg_tup rfl (pgs_cons (pg_sub (pv 4) (pv 5) set_list) (pgs_cons (pg_sub (pv 4) (pe_ix ix_tup (pv 1) pe_int (fun _ _ => rfl)) set_list) pgs_nil)))))
    pss_nil)
  (pss_cons (ps_if (pt_cmpR op_eq (pe_ix ix_tup (pv 1) pe_int (fun _ _ => rfl)) pe_str (nomark _))
    (pss_one (ps_asg (pv 3) (pg_sub (pv 4) (pv 5) set_list)))
    pss_nil)
  (pss_one (ps_ret (pe_callTy call_tuple_of (by rfl) M.tuple_ (by decide +kernel) (pa_cons (pv 4) pa_nil))))))))))), ?_⟩
  refine ⟨_, rfl, rg, _, rfl, .inr sq, fun m nm => ?_⟩
  have sm : Same H (upd H m (.lst (r.map V.int))) := same_new nm
  have sa := (Kt.same sm).sq sa
  have sq := (Kt.same sm).sq sq
  have pp : (0 : Int) < p := by omega
  have hm := upd_same (H := H) (a := m) (o := .lst (r.map V.int))
  have gb : ∀ i, 0 ≤ gt r i ∧ gt r i < p := in_gt ir pp
  generalize upd H m (.lst (r.map V.int)) = H1 at sm sa sq hm ⊢
  have fin : ∀ (r' : List Int) (H2 : Hp), aft p z as r vx = r' → Same H H2 → H2 m = some (.lst (r'.map V.int)) → ∀ t, H2 t = none → Q (.ref t) (upd H2 t (.tup (r'.map V.int))) := fun r' H2 e s2 h2 t nt => q _ t (s2.trans (same_new nt)) (by rw [e]; exact SqT.of upd_same)
  have lm : (r.map V.int).length = r.length := List.length_map _
  obtain ⟨x, as', rfl, xa, xb⟩ : ∃ x0 as', as = x0 :: as' ∧ 0 ≤ x0 ∧ x0 < n := by
    rcases go with ⟨_, x, c, rfl, a, b, _⟩ | ⟨_, x, rfl, a, b⟩ | ⟨_, x, y, rfl, a, b, _⟩ | ⟨_, x, y, c, rfl, a, b, _⟩ <;> exact ⟨_, _, rfl, a, b⟩
  refine ⟨_, rfl, a, _, 1, .int x, rfl, rfl, sa, atI_nat (j := 1) rfl, _, _, rfl, ?_⟩
  rcases go with ⟨rfl | rfl, x2, c, e, x0', x1, c0, c1⟩ | ⟨rfl | rfl, x2, e, x0', x1⟩ | ⟨rfl | rfl, x2, y, e, x0', x1, y0, y1, xy⟩ | ⟨rfl, x2, y, c, e, x0', x1, y0, y1, xy, c0, c1⟩ <;> cases e
  · -- set
    refine ⟨_, rfl, a, _, 0, .str "set", rfl, rfl, sa, at0, rfl, _, rfl, iteP rfl ?_⟩
    refine ⟨_, rfl, a, _, 2, .int c, rfl, rfl, sa, rfl, ?_⟩
    refine ⟨_, rfl, _, rfl, m, _, x, x.toNat, rfl, rfl, hm, ix_sv (by omega) (by omega), ?_⟩
    rw [map_sv]
    have sm2 : Same H (upd H1 m (.lst ((sv r x c).map V.int))) := same_upd sm nm
    have ka : Kt H1 (upd H1 m (.lst ((sv r x c).map V.int))) := Kt.but But.upd hm
    have sa := ka.sq sa
    refine ⟨_, rfl, a, _, 0, .str "set", rfl, rfl, sa, at0, rfl, _, rfl, iteN (by decide) ?_⟩
    refine ⟨_, rfl, a, _, 0, .str "set", rfl, rfl, sa, at0, rfl, _, rfl, iteN (by decide) ?_⟩
    refine ⟨_, rfl, a, _, 0, .str "set", rfl, rfl, sa, at0, rfl, _, rfl, iteN (by decide) ?_⟩
    refine ⟨_, rfl, a, _, 0, .str "set", rfl, rfl, sa, at0, rfl, _, rfl, iteN (by decide) ?_⟩
    refine ⟨_, rfl, a, _, 0, .str "set", rfl, rfl, sa, at0, rfl, _, rfl, iteN (by decide) ?_⟩
    exact ⟨_, rfl, m, _, rfl, .inl ⟨SqL.of upd_same, fin _ _ (aft_set p r vx xa c0 c1) sm2 upd_same⟩⟩
  · -- scale
    refine ⟨_, rfl, a, _, 0, .str "scale", rfl, rfl, sa, at0, rfl, _, rfl, iteN (by decide) ?_⟩
    refine ⟨_, rfl, a, _, 0, .str "scale", rfl, rfl, sa, at0, rfl, _, rfl, iteN (by decide) ?_⟩
    refine ⟨_, rfl, a, _, 0, .str "scale", rfl, rfl, sa, at0, rfl, _, rfl, iteN (by decide) ?_⟩
    refine ⟨_, rfl, a, _, 0, .str "scale", rfl, rfl, sa, at0, rfl, _, rfl, iteP rfl ?_⟩
    refine ⟨_, rfl, _, rfl, rg, _, x, _, rfl, rfl, sq, at_gt (by omega) (by omega), _, rfl, a, _, 2, .int c, rfl, rfl, sa, rfl, _, c, rfl, rfl, .inl ⟨by have := gb x; omega, by have := gb x; omega⟩, _, rfl, _, p, rfl, rfl, pp, ?_⟩
    refine ⟨_, rfl, _, rfl, m, _, x, x.toNat, rfl, rfl, hm, ix_sv (by omega) (by omega), ?_⟩
    rw [map_sv]
    have sm2 : Same H (upd H1 m (.lst ((sv r x (gt r x * c % p)).map V.int))) := same_upd sm nm
    have ka : Kt H1 (upd H1 m (.lst ((sv r x (gt r x * c % p)).map V.int))) := Kt.but But.upd hm
    have sa := ka.sq sa
    refine ⟨_, rfl, a, _, 0, .str "scale", rfl, rfl, sa, at0, rfl, _, rfl, iteN (by decide) ?_⟩
    refine ⟨_, rfl, a, _, 0, .str "scale", rfl, rfl, sa, at0, rfl, _, rfl, iteN (by decide) ?_⟩
    exact ⟨_, rfl, m, _, rfl, .inl ⟨SqL.of upd_same, fin _ _ (aft_scale p r vx xa) sm2 upd_same⟩⟩
  · -- read
    refine ⟨_, rfl, a, _, 0, .str "read", rfl, rfl, sa, at0, rfl, _, rfl, iteN (by decide) ?_⟩
    refine ⟨_, rfl, a, _, 0, .str "read", rfl, rfl, sa, at0, rfl, _, rfl, iteN (by decide) ?_⟩
    refine ⟨_, rfl, a, _, 0, .str "read", rfl, rfl, sa, at0, rfl, _, rfl, iteN (by decide) ?_⟩
    refine ⟨_, rfl, a, _, 0, .str "read", rfl, rfl, sa, at0, rfl, _, rfl, iteN (by decide) ?_⟩
    refine ⟨_, rfl, a, _, 0, .str "read", rfl, rfl, sa, at0, rfl, _, rfl, iteN (by decide) ?_⟩
    refine ⟨_, rfl, a, _, 0, .str "read", rfl, rfl, sa, at0, rfl, _, rfl, iteP rfl ?_⟩
    refine ⟨_, rfl, _, rfl, _, rfl, m, _, x, x.toNat, rfl, rfl, hm, ix_sv (by omega) (by omega), ?_⟩
    rw [map_sv]
    have sm2 : Same H (upd H1 m (.lst ((sv r x vx).map V.int))) := same_upd sm nm
    exact ⟨_, rfl, m, _, rfl, .inl ⟨SqL.of upd_same, fin _ _ (aft_read p r vx xa) sm2 upd_same⟩⟩
  · -- write
    refine ⟨_, rfl, a, _, 0, .str "write", rfl, rfl, sa, at0, rfl, _, rfl, iteN (by decide) ?_⟩
    refine ⟨_, rfl, a, _, 0, .str "write", rfl, rfl, sa, at0, rfl, _, rfl, iteN (by decide) ?_⟩
    refine ⟨_, rfl, a, _, 0, .str "write", rfl, rfl, sa, at0, rfl, _, rfl, iteN (by decide) ?_⟩
    refine ⟨_, rfl, a, _, 0, .str "write", rfl, rfl, sa, at0, rfl, _, rfl, iteN (by decide) ?_⟩
    refine ⟨_, rfl, a, _, 0, .str "write", rfl, rfl, sa, at0, rfl, _, rfl, iteN (by decide) ?_⟩
    refine ⟨_, rfl, a, _, 0, .str "write", rfl, rfl, sa, at0, rfl, _, rfl, iteN (by decide) ?_⟩
    exact ⟨_, rfl, m, _, rfl, .inl ⟨SqL.of hm, fin _ _ (aft_write p r vx x) sm hm⟩⟩
  · -- copy
    refine ⟨_, rfl, a, _, 0, .str "copy", rfl, rfl, sa, at0, rfl, _, rfl, iteN (by decide) ?_⟩
    refine ⟨_, rfl, a, _, 0, .str "copy", rfl, rfl, sa, at0, rfl, _, rfl, iteP rfl ?_⟩
    refine ⟨_, rfl, _, rfl, a, _, 2, .int y, rfl, rfl, sa, rfl, rg, _, y, _, rfl, rfl, sq, at_gt (by omega) (by omega), ?_⟩
    refine ⟨_, rfl, _, rfl, m, _, x, x.toNat, rfl, rfl, hm, ix_sv (by omega) (by omega), ?_⟩
    rw [map_sv]
    have sm2 : Same H (upd H1 m (.lst ((sv r x (gt r y)).map V.int))) := same_upd sm nm
    have ka : Kt H1 (upd H1 m (.lst ((sv r x (gt r y)).map V.int))) := Kt.but But.upd hm
    have sa := ka.sq sa
    refine ⟨_, rfl, a, _, 0, .str "copy", rfl, rfl, sa, at0, rfl, _, rfl, iteN (by decide) ?_⟩
    refine ⟨_, rfl, a, _, 0, .str "copy", rfl, rfl, sa, at0, rfl, _, rfl, iteN (by decide) ?_⟩
    refine ⟨_, rfl, a, _, 0, .str "copy", rfl, rfl, sa, at0, rfl, _, rfl, iteN (by decide) ?_⟩
    refine ⟨_, rfl, a, _, 0, .str "copy", rfl, rfl, sa, at0, rfl, _, rfl, iteN (by decide) ?_⟩
    exact ⟨_, rfl, m, _, rfl, .inl ⟨SqL.of upd_same, fin _ _ (aft_copy p r vx xa y0) sm2 upd_same⟩⟩
  · -- swap
    refine ⟨_, rfl, a, _, 0, .str "swap", rfl, rfl, sa, at0, rfl, _, rfl, iteN (by decide) ?_⟩
    refine ⟨_, rfl, a, _, 0, .str "swap", rfl, rfl, sa, at0, rfl, _, rfl, iteN (by decide) ?_⟩
    refine ⟨_, rfl, a, _, 0, .str "swap", rfl, rfl, sa, at0, rfl, _, rfl, iteN (by decide) ?_⟩
    refine ⟨_, rfl, a, _, 0, .str "swap", rfl, rfl, sa, at0, rfl, _, rfl, iteN (by decide) ?_⟩
    refine ⟨_, rfl, a, _, 0, .str "swap", rfl, rfl, sa, at0, rfl, _, rfl, iteP rfl ?_⟩
    refine ⟨_, rfl, _, rfl, a, _, 2, .int y, rfl, rfl, sa, rfl, rg, _, y, _, rfl, rfl, sq, at_gt (by omega) (by omega), _, rfl, _, rfl, rg, _, x, _, rfl, rfl, sq, at_gt (by omega) (by omega), ?_⟩
    refine ⟨(by show 2 ≤ sizeLine; decide), fun t nt => ?_⟩
    have nmt : m ≠ t := ne_of_none hm nt
    have st := same_new (o := .tup [V.int (gt r y), V.int (gt r x)]) nt
    have sa2 := (Kt.same st).sq sa
    have hm2 := st _ _ hm
    have ht2 := upd_same (H := H1) (a := t) (o := .tup [V.int (gt r y), V.int (gt r x)])
    have sm1 := sm.trans st
    generalize upd H1 t (.tup [V.int (gt r y), V.int (gt r x)]) = H2 at sa2 hm2 ht2 sm1 ⊢
    refine ⟨t, _, rfl, SqT.of ht2, rfl, _, _, rfl, ?_⟩
    refine ⟨_, rfl, _, rfl, m, _, x, x.toNat, rfl, rfl, hm2, ix_sv (by omega) (by omega), ?_⟩
    rw [map_sv]
    have ka : Kt H2 (upd H2 m (.lst ((sv r x (gt r y)).map V.int))) := Kt.but But.upd hm2
    have sa3 := ka.sq sa2
    refine ⟨_, _, rfl, _, rfl, _, rfl, a, _, 2, .int y, rfl, rfl, sa3, rfl, m, _, y, y.toNat, rfl, rfl, upd_same, ?_, ?_⟩
    · rw [List.length_map, sv_len]
      exact ix_sv (by omega) (by omega)
    rw [map_sv]
    have kb : Kt (upd H2 m (.lst ((sv r x (gt r y)).map V.int))) (upd (upd H2 m (.lst ((sv r x (gt r y)).map V.int))) m (.lst ((sv (sv r x (gt r y)) y (gt r x)).map V.int))) := Kt.but But.upd upd_same
    have sa4 := kb.sq sa3
    refine ⟨rfl, ?_⟩
    refine ⟨_, rfl, a, _, 0, .str "swap", rfl, rfl, sa4, at0, rfl, _, rfl, iteN (by decide) ?_⟩
    exact ⟨_, rfl, m, _, rfl, .inl ⟨SqL.of upd_same, fin _ _ (aft_swap p r vx xa y0) (same_upd (same_upd sm1 nm) nm) upd_same⟩⟩
  · -- add
    refine ⟨_, rfl, a, _, 0, .str "add", rfl, rfl, sa, at0, rfl, _, rfl, iteN (by decide) ?_⟩
    refine ⟨_, rfl, a, _, 0, .str "add", rfl, rfl, sa, at0, rfl, _, rfl, iteN (by decide) ?_⟩
    refine ⟨_, rfl, a, _, 0, .str "add", rfl, rfl, sa, at0, rfl, _, rfl, iteP rfl ?_⟩
    refine ⟨_, rfl, _, rfl, rg, _, x, _, rfl, rfl, sq, at_gt (by omega) (by omega), _, rfl, a, _, 3, .int c, rfl, rfl, sa, rfl, _, rfl, _, rfl, a, _, 2, .int y, rfl, rfl, sa, rfl, rg, _, y, _, rfl, rfl, sq, at_gt (by omega) (by omega), c, _, rfl, rfl, .inl ⟨by omega, by omega⟩, _, _, rfl, rfl, _, rfl, _, p, rfl, rfl, pp, ?_⟩
    refine ⟨_, rfl, _, rfl, m, _, x, x.toNat, rfl, rfl, hm, ix_sv (by omega) (by omega), ?_⟩
    rw [map_sv]
    have sm2 : Same H (upd H1 m (.lst ((sv r x ((gt r x + c * gt r y) % p)).map V.int))) := same_upd sm nm
    have ka : Kt H1 (upd H1 m (.lst ((sv r x ((gt r x + c * gt r y) % p)).map V.int))) := Kt.but But.upd hm
    have sa := ka.sq sa
    refine ⟨_, rfl, a, _, 0, .str "add", rfl, rfl, sa, at0, rfl, _, rfl, iteN (by decide) ?_⟩
    refine ⟨_, rfl, a, _, 0, .str "add", rfl, rfl, sa, at0, rfl, _, rfl, iteN (by decide) ?_⟩
    refine ⟨_, rfl, a, _, 0, .str "add", rfl, rfl, sa, at0, rfl, _, rfl, iteN (by decide) ?_⟩
    exact ⟨_, rfl, m, _, rfl, .inl ⟨SqL.of upd_same, fin _ _ (aft_add p r vx xa y0) sm2 upd_same⟩⟩
end
end K12
set_option Elab.async false
set_option linter.all false
set_option maxRecDepth 100000
set_option pp.maxSteps 500
set_option pp.deepTerms.threshold 8
set_option pp.deepTerms false
namespace K12
open PySem PySem.Spec PyProof.Rows L2 Lj
section
variable {P : Program} {w : World} {K : PySem.W.Frag} {mg : Str → Option Value} {base : Heap}
/-! ### the law's own run -/
def spLrun (K : PySem.W.Frag) (d : Nat) : Sp := fun vs H Q _ => ∃ (p n : Int) (v : V) (b : List Tr) (rg g : Addr) (rs is : List Int), vs = [.int p, v, .ref rg, .ref g] ∧ BodyAt K H b v ∧ okB d b ∧ fines b ∧ (exs b).length ≤ 20000 ∧ Goods p n (exs b) ∧ 2 ≤ p ∧ p ≤ 10007 ∧ n ≤ 8 ∧
  SqT K H rg (rs.map V.int) ∧ (rs.length : Int) = n ∧ In p rs ∧ SqT K H g (is.map V.int) ∧ In p is ∧ rc (exs b) ≤ is.length ∧
  ∀ H' v', Same H H' → HistAt K H' v' (res p (exs b) (rs, is)) → Q v' H'
theorem ok_lrun (M : Bl mg) (F : At K mg "_law_run" sLrun ["_law_q", "_law_tree", "_law_regs", "_law_feed"]) {d k : Nat} (h1 : Has P w K mg base k "_law_executed" ["_law_tree"] (spExec K d)) (h2 : Has P w K mg base k "_law_after" ["_law_q", "_law_item_here", "_law_regs", "_law_value"] (spAft K)) :
    Has P w K mg base (k + 1) "_law_run" ["_law_q", "_law_tree", "_law_regs", "_law_feed"] (spLrun K d) := by
  obtain ⟨_, _, cExecuted⟩ := h1
  obtain ⟨_, _, cAfter⟩ := h2
  refine Has.by F scLrun (fun vs H Q E h => ?_) (fun f cdv A out s H vs Q E hg hr h => ?_)
  · obtain ⟨_, _, _, _, _, _, _, _, rfl, _⟩ := h
    rfl
  obtain ⟨p, n, v, b, rg, g, rs, is, rfl, hB, ok, fin, big, gd, p0, p1, n8, sr, rl, ir, sg, ig, rcl, q⟩ := h
  refine ⟨_, (pss_cons (ps_par3 (i := 4) (j := 5) (l := 6) (by rfl) scLrun.nd rfl rfl rfl (by decide) (by decide) (by decide) rfl rfl rfl (pa_cons (pv 2) (pa_cons (pe_lst pa_nil) (pa_cons pe_int pa_nil))) (by rfl))
  (pss_cons (ps_for PassesOwn.never rfl (pi_list (pe_cal cExecuted hg hr (by rfl) (pa_cons (pv 1) pa_nil))) (pg_name (i := 7) scLrun.nd rfl (.inl rfl))
    (Evl.pss_cut (ps_if (pt_cmpR op_eq (pe_ix ix_tup (pv 7) pe_int (fun _ _ => rfl)) pe_str (nomark _))
    (pss_one (ps_expr (pe_bm PySem.F.plainAttrs_list PySem.F.slot_list_append PySem.F.type_list_append mt_append (pv 5) (pa_cons (pe_ix ix_tup (pv 4) (pe_ix ix_tup (pv 7) pe_int (fun _ _ => rfl)) (fun _ _ => rfl)) pa_nil))))
    pss_nil)
  (pss_cons (ps_set (i := 4) scLrun.nd rfl (.inl rfl) (pe_cal cAfter hg hr (by rfl) (pa_cons (pv 0) (pa_cons (pv 7) (pa_cons (pv 4) (pa_cons (pe_ifExp (pt_cmpR op_eq (pe_ix ix_tup (pv 7) pe_int (fun _ _ => rfl)) pe_str (nomark _)) (pe_ix ix_tup (pv 3) (pv 6) (fun _ _ => rfl)) pe_int) pa_nil))))))
  (pss_one (ps_set (i := 6) scLrun.nd rfl (.inl rfl) (pe_op op_add (pv 6) (pe_callTy call_int1 (by rfl) M.int_ (by decide +kernel) (pa_cons (pe_cmpR op_eq (pe_ix ix_tup (pv 7) pe_int (fun _ _ => rfl)) pe_str (nomark _)) pa_nil))))))))
  (pss_one (ps_ret (pe_tup (pa_cons (pv 4) (pa_cons (pe_callTy call_tuple_of (by rfl) M.tuple_ (by decide +kernel) (pa_cons (pv 5) pa_nil)) pa_nil))))))), ?_⟩
  have pp : (0 : Int) < p := by omega
  refine ⟨_, rfl, Nat.zero_le _, fun fo nfo => ⟨_, _, _, rfl, ?_⟩⟩
  have sf := same_new (o := .lst []) nfo
  refine ⟨_, rfl, v, b, rfl, hB.kt (Kt.same sf), ok, fin, by omega, fun H1 l us s1 nl h1 t1 => ?_⟩
  refine ⟨l, rfl, ⟨_, SqL.of h1⟩, ?_⟩
  have nlf : fo ≠ l := ne_of_none (upd_same (H := H) (a := fo) (o := .lst [])) nl
  have hfo := s1 _ _ (upd_same (H := H) (a := fo) (o := .lst []))
  have sA : Same H H1 := sf.trans s1
  have row0 : ∃ r, (run0 rs).row = 1 :: r := ⟨rs, rfl⟩
  have inr0 : In p (run0 rs).row ∧ In p (run0 rs).wr := ⟨fun x m => by
    rcases List.mem_cons.mp m with rfl | m
    · exact ⟨by decide, by omega⟩
    · exact ir x m, fun x m => absurd m List.not_mem_nil⟩
  refine for_list (K := K) (a := l) (xs := us) (fun i σ H' => ∃ (y7 : Option V) (t4 : Addr), σ = [some (.int p), some v, some (.ref rg), some (.ref g), some (.ref t4), some (.ref fo), some (.int (rns p is (run0 rs) ((exs b).take i)).tk), y7] ∧ Same H H' ∧ H' l = some (.lst us) ∧ Kt H1 H' ∧ SqT K H' t4 ((rns p is (run0 rs) ((exs b).take i)).row.tail.map V.int) ∧ H' fo = some (.lst ((rns p is (run0 rs) ((exs b).take i)).wr.map V.int))) ⟨none, rg, rfl, sA, h1, Kt.refl _, (Kt.same sA).sq sr, hfo⟩ ?_ ?_ ?_
  · rintro i σ H' _ ⟨_, _, _, _, h, _⟩
    exact SqL.of h
  · rintro i y σ H2 hy ⟨y7, t4, rfl, s2, hl2, k2, sq4, hf2⟩
    obtain ⟨t, ht, hT⟩ := t1.get hy
    obtain ⟨z, as, rfl, go⟩ := gd t (List.mem_of_getElem? ht)
    have hT2 := TrAt.kt k2 _ _ hT
    have tk := rns_tk (is := is) (s := run0 rs) (gd.take i)
    have wr := rns_wr (is := is) (s := run0 rs) (gd.take i)
    have le := rns_len (is := is) (s := run0 rs) (gd.take i)
    obtain ⟨r, er⟩ := rns_row (is := is) (s := run0 rs) (gd.take i) row0
    have inn := in_rns (s := run0 rs) pp ig (gd.take i) inr0
    rw [rns_next ht]
    generalize hst : rns p is (run0 rs) ((exs b).take i) = st at tk wr le er inn sq4 hf2 ⊢
    obtain ⟨row, stk, swr⟩ := st
    dsimp only at tk wr le er inn sq4 hf2 ⊢
    subst er
    have rlen : (r.length : Int) = n := by
      have e1 : ((1 : Int) :: r).length = ((1 : Int) :: rs).length := le
      rw [List.length_cons, List.length_cons] at e1
      omega
    have irr : In p r := fun x m => inn.1 x (List.mem_cons_of_mem _ m)
    have sq4 : SqT K H2 t4 (r.map V.int) := sq4
    have tkl : z = "read" → stk < is.length := fun e => by
      subst e
      have h1 := rc_take (exs b) (i + 1)
      rw [List.take_add_one, ht, rc_append] at h1
      have h2 : rc (some (Tr.op "read" as)).toList = 1 := rfl
      have h3 : ((run0 rs).tk : Int) = 0 := rfl
      omega
    have wb : swr.length ≤ 20000 := by
      rw [wr]
      have h1 := wc_le ((exs b).take i)
      have h2 : (run0 rs).wr.length = 0 := rfl
      rw [List.length_take] at h1
      omega
    obtain ⟨x0, as', eas, xa, xb⟩ : ∃ x0 as', as = x0 :: as' ∧ 0 ≤ x0 ∧ x0 < n := by
      rcases go with ⟨_, x, c, rfl, a, b, _⟩ | ⟨_, x, rfl, a, b⟩ | ⟨_, x, y, rfl, a, b, _⟩ | ⟨_, x, y, c, rfl, a, b, _⟩ <;> exact ⟨_, _, rfl, a, b⟩
    have hT3 := hT2
    rw [TrAt] at hT3
    obtain ⟨a, rfl, sa⟩ := hT3
    have rowE := stp_row (is := is) (tk := stk) (wr := swr) (r := r) go (v := if z = "read" then is.getD stk 0 else 0) (fun e => if_pos e)
    have outE := stp_out (p := p) (is := is) (s := ⟨1 :: r, stk, swr⟩) (z := z) (as := as)
    have atE := stp_at (p := p) (is := is) (s := ⟨1 :: r, stk, swr⟩) (z := z) (as := as)
    refine ⟨fun σ' H3 => σ' = [some (.int p), some v, some (.ref rg), some (.ref g), some (.ref t4), some (.ref fo), some (.int (stk : Nat)), some (.ref a)] ∧ Same H H3 ∧ H3 l = some (.lst us) ∧ Kt H2 H3 ∧ H3 fo = some (.lst ((stp p is ⟨1 :: r, stk, swr⟩ (.op z as)).wr.map V.int)), ?_, ?_⟩
    · refine ⟨_, rfl, a, _, 0, .str z, rfl, rfl, sa, at0, rfl, _, rfl, ?_⟩
      by_cases cw : z = "write"
      · refine iteP (congrArg V.str cw) ?_
        refine ⟨_, rfl, .inl ⟨rfl, _, SqL.of hf2⟩, _, rfl, _, rfl, a, _, 1, .int x0, rfl, rfl, sa, ?_, t4, _, x0, _, rfl, rfl, sq4, at_gt (by omega) (by omega), fo, _, _, rfl, rfl, hf2, ?_, rfl, same_upd s2 nfo, ?_, Kt.but But.upd hf2, ?_⟩
        · rw [eas]
          exact atI_nat (j := 1) rfl
        · rw [List.length_map, sizeLine_eq]
          omega
        · rw [upd_ne nlf.symm]
          exact hl2
        · rw [upd_same, outE, if_pos cw, eas, List.map_append]
          show some (HO.lst (_ ++ [V.int (gt r x0)])) = some (HO.lst (_ ++ [V.int (gt (1 :: r) (x0 + 1))]))
          rw [gt_cons _ _ xa]
      · refine iteN (fun e => cw (V.str.inj e)) ⟨rfl, s2, hl2, Kt.refl _, ?_⟩
        rw [outE, if_neg cw, List.append_nil]
        exact hf2
    · rintro σ' H3 ⟨rfl, s3, hl3, k3, hf3⟩
      have sa3 := k3.sq sa
      have sq43 := k3.sq sq4
      have hT3 := TrAt.kt k3 _ _ hT2
      have go2 : ∀ (vx : Int), vx = (if z = "read" then is.getD stk 0 else 0) → ∀ H4 t, Same H3 H4 → SqT K H4 t ((aft p z as r vx).map V.int) → ∃ (y7 : Option V) (t4 : Addr), [some (.int p), some v, some (.ref rg), some (.ref g), some (.ref t), some (.ref fo), some (.int ((stk : Int) + (if z = "read" then 1 else 0))), some (.ref a)] = [some (.int p), some v, some (.ref rg), some (.ref g), some (.ref t4), some (.ref fo), some (.int (stp p is ⟨1 :: r, stk, swr⟩ (.op z as)).tk), y7] ∧ Same H H4 ∧ H4 l = some (.lst us) ∧ Kt H1 H4 ∧ SqT K H4 t4 ((stp p is ⟨1 :: r, stk, swr⟩ (.op z as)).row.tail.map V.int) ∧ H4 fo = some (.lst ((stp p is ⟨1 :: r, stk, swr⟩ (.op z as)).wr.map V.int)) := fun vx evx H4 t s4 sqt => by
        refine ⟨some (.ref a), t, ?_, s3.trans s4, s4 _ _ hl3, (k2.trans k3).trans (Kt.same s4), ?_, s4 _ _ hf3⟩
        · rw [atE]
          by_cases cr : z = "read"
          · rw [if_pos cr, if_pos cr]
            rfl
          · rw [if_neg cr, if_neg cr, Int.add_zero]
            rfl
        · rw [rowE, ← evx]
          exact sqt
      by_cases cr : z = "read"
      · have tkb := tkl cr
        refine ⟨_, rfl, _, rfl, _, rfl, _, rfl, a, _, 0, .str z, rfl, rfl, sa3, at0, rfl, _, rfl, iteP (congrArg V.str cr) ?_⟩
        refine ⟨_, rfl, _, rfl, g, _, (stk : Nat), _, rfl, rfl, (Kt.same s3).sq sg, at_gt (by omega) (by omega), p, n, _, _, z, as, r, t4, rfl, hT3, go, p0, p1, sq43, rlen, n8, irr, fun H4 t s4 sqt => ?_⟩
        have g4 := go2 (gt is (stk : Nat)) (by rw [if_pos cr]; rfl) H4 t s4 sqt
        rw [if_pos cr] at g4
        refine ⟨_, rfl, _, rfl, a, _, 0, .str z, rfl, rfl, (Kt.same s4).sq sa3, at0, rfl, .inr ⟨_, rfl, _, _, rfl, rfl, ?_⟩⟩
        rw [decide_eq_true (congrArg V.str cr)]
        exact g4
      · refine ⟨_, rfl, _, rfl, _, rfl, _, rfl, a, _, 0, .str z, rfl, rfl, sa3, at0, rfl, _, rfl, iteN (fun e => cr (V.str.inj e)) ?_⟩
        refine ⟨p, n, 0, _, z, as, r, t4, rfl, hT3, go, p0, p1, sq43, rlen, n8, irr, fun H4 t s4 sqt => ?_⟩
        have g4 := go2 0 (by rw [if_neg cr]) H4 t s4 sqt
        rw [if_neg cr] at g4
        refine ⟨_, rfl, _, rfl, a, _, 0, .str z, rfl, rfl, (Kt.same s4).sq sa3, at0, rfl, .inr ⟨_, rfl, _, _, rfl, rfl, ?_⟩⟩
        rw [decide_eq_false (fun e => cr (V.str.inj e))]
        exact g4
  · rintro σ H2 ⟨y7, t4, rfl, s2, hl2, k2, sq4, hf2⟩
    rw [t1.length, List.take_length] at sq4 hf2
    refine ⟨_, rfl, _, rfl, fo, _, rfl, .inl ⟨SqL.of hf2, fun t5 nt5 => ?_⟩⟩
    have s5 := same_new (o := .tup ((rns p is (run0 rs) (exs b)).wr.map V.int)) nt5
    refine ⟨(by show 2 ≤ sizeLine; decide), fun t6 nt6 => ?_⟩
    have s6 := same_new (o := .tup [V.ref t4, V.ref t5]) nt6
    exact q _ _ ((s2.trans s5).trans s6) ⟨t6, t4, t5, rfl, SqT.of upd_same, (Kt.same (s5.trans s6)).sq sq4, (Kt.same s6).sq (SqT.of upd_same)⟩
end
end K12
set_option Elab.async false
set_option linter.all false
set_option maxRecDepth 100000
set_option pp.maxSteps 500
set_option pp.deepTerms.threshold 8
set_option pp.deepTerms false
namespace K12
open PySem PySem.Spec PyProof.Rows L2 Lj
section
variable {P : Program} {w : World} {K : PySem.W.Frag} {mg : Str → Option Value} {base : Heap}
/-! ### how long: what run says -/
structure ErrsL (P : Program) (K : PySem.W.Frag) (mg : Str → Option Value) (CJ CL fL C0 C1 C2 : Addr) : Prop where
  T : ErrTxt P K mg "TooLong" "size" CL fL
  gJ : mg "JournalError" = some (.ref CJ)
  g0 : mg "BadInputs" = some (.ref C0)
  g1 : mg "BadProgram" = some (.ref C1)
  g2 : mg "TooDeep" = some (.ref C2)
  ex : PySem.W.exmOne K (.ref CL) (.ref CJ) = some true
  xc : ExcC K CL
  kV : PySem.W.kitOne K (.ref CL) (.type "ValueError") = some true
  kO : PySem.W.kitAny K (.ref CL) [.ref C0, .ref C1, .ref C2] = some false
  mV : mg "ValueError" = none
theorem kit_self (K : PySem.W.Frag) (C : Addr) : PySem.W.kitOne K (.ref C) (.ref C) = some true := by
  unfold PySem.W.kitOne
  rw [if_pos (beq_self_eq_true _)]
def spSize (K : PySem.W.Frag) (d : Nat) : Sp := fun vs H Q _ => ∃ (v : V) (b : List Tr), vs = [v] ∧ BodyAt K H b v ∧ okB d b ∧ 20000 < lens b ∧ ∀ H', Same H H' → Q (.int (lens b)) H'
theorem ok_size (M : Bl mg) (F : At K mg "_law_size" sSize ["_law_tree"]) {d k : Nat} {CJ CL fL C0 C1 C2 : Addr} (R : ErrsL P K mg CJ CL fL C0 C1 C2) (h : HasE P w K mg base k "run" ["p", "program", "registers", "inputs"] (spRunE K CL d)) :
    Has P w K mg base (k + 1) "_law_size" ["_law_tree"] (spSize K d) := by
  obtain ⟨_, _, cRun⟩ := h
  refine Has.by F scSize (fun vs H Q E h => ?_) (fun f cdv A out s H vs Q E hg hr h => ?_)
  · obtain ⟨_, _, rfl, _⟩ := h
    rfl
  obtain ⟨v, b, rfl, hB, ok, big, q⟩ := h
  have T := R.T
  refine ⟨_, (pss_cons (ps_set (i := 1) scSize.nd rfl (.inl rfl) pe_non)
  (pss_cons (ps_try_keep (i := 2) rfl rfl rfl scSize.nd rfl rfl ⟨by rfl, by decide, .inl R.gJ⟩ takes0 (fun W pn xe tk _ => pss_one (ps_expr (pe_calE cRun hg hr (by rfl) (fun σ => passAt tk σ) (pa_cons pe_int (pa_cons (pv 0) (pa_cons (pe_tup (pa_cons pe_int (pa_cons pe_int pa_nil))) (pa_cons (pe_tup pa_nil) pa_nil))))))) (fun a pn => pss_one (ps_set (i := 1) scSize.nd rfl (.inl rfl) (pv 2))))
  (pss_cons (ps_if (PW.pt (pw_or (pt_not (pt_val (pe_callB (call_isX (K := K) rfl) (by rfl) M.isinstance_ (by decide +kernel) (pa_cons (pv 1) (pa_cons (pe_glob (v := .ref CL) (by rfl) T.gC rfl) pa_nil))))) (pw_or1 (pt_not (pt_val (pe_callB (call_isX (K := K) rfl) (by rfl) M.isinstance_ (by decide +kernel) (pa_cons (pv 1) (pa_cons (pe_bltn (v := .ty "ValueError") (by rfl) R.mV (by decide +kernel) rfl) pa_nil))))))))
    (pss_one (ps_ret pe_non))
    pss_nil)
  (pss_one (ps_ret (pe_ifExp (pt_val (pe_callB (call_isXT (K := K) rfl) (by rfl) M.isinstance_ (by decide +kernel) (pa_cons (pv 1) (pa_cons (pe_tup (pa_cons (pe_glob (v := .ref C0) (by rfl) R.g0 rfl) (pa_cons (pe_glob (v := .ref C1) (by rfl) R.g1 rfl) (pa_cons (pe_glob (v := .ref C2) (by rfl) R.g2 rfl) pa_nil)))) pa_nil)))) pe_non (pe_exvF (pv 1)))))))), ?_⟩
  refine ⟨_, rfl, (by show 2 ≤ sizeLine; decide), fun t1 nt1 => ?_⟩
  have r1 := same_new (o := .tup [V.int 1, V.int 2]) nt1
  refine ⟨(by show 0 ≤ sizeLine; decide), fun t2 nt2 => ?_⟩
  have r2 := same_new (o := .tup []) nt2
  have r12 := r1.trans r2
  refine .inr ⟨_, v, _, _, b, rfl, hB.kt (Kt.same r12), ok, big, fun d H1 s1 nd hd => ?_⟩
  have s1 := r12.trans s1
  refine ⟨true, R.ex, fun _ a na => ?_, fun z => nomatch z⟩
  have nad : d ≠ a := ne_of_none hd na
  have hd2 : (upd H1 a (exv a (.ref CL) (some d))) d = some (.xd [("size", .int (lens b))]) := by
    rw [upd_ne nad]
    exact hd
  have sE : Same H (upd H1 a (exv a (.ref CL) (some d))) := same_upd s1 (s1.free na)
  have hasd : ∀ dd', some d = some dd' → ∃ fs, (upd H1 a (exv a (.ref CL) (some d))) dd' = some (.xd fs) := fun dd' e => by
    cases e
    exact ⟨_, hd2⟩
  have he := upd_same (H := H1) (a := a) (o := exv a (.ref CL) (some d))
  generalize upd H1 a (exv a (.ref CL) (some d)) = H2 at hd2 sE hasd he
  refine ⟨_, rfl, ?_⟩
  refine ⟨_, rfl, a, CL, some d, _, _, true, rfl, he, hasd, R.xc, .own CL, kit_self K CL, _, rfl, iteF ?_⟩
  refine ⟨_, rfl, a, CL, some d, _, _, true, rfl, he, hasd, R.xc, .ty _, R.kV, _, rfl, iteF ?_⟩
  refine ⟨_, rfl, (by show 3 ≤ sizeLine; decide), fun tp ntp => ?_⟩
  have s3 := same_new (o := .tup [V.ref C0, V.ref C1, V.ref C2]) ntp
  have he3 := s3 _ _ he
  have hd3 := s3 _ _ hd2
  refine ⟨a, CL, some d, tp, _, _, false, rfl, he3, fun dd' e => ⟨_, by cases e; exact hd3⟩, R.xc, upd_same, .cons (.own C0) (.cons (.own C1) (.cons (.own C2) .nil)), R.kO, _, rfl, iteF ?_⟩
  exact ⟨_, rfl, a, CL, d, _, .int (lens b), rfl, ⟨T.ga, T.gg, T.exC, T.hdC⟩, T.noN, he3, hd3, by simp [List.lookup], q _ (sE.trans s3)⟩
theorem run_calm {d k : Nat} {C : Addr} (h : HasE P w K mg base k "run" ["p", "program", "registers", "inputs"] (spRunE K C d)) : Has P w K mg base k "run" ["p", "program", "registers", "inputs"] (spRun K d) :=
  h.calm fun vs H Q E x => .inl x
/-! ### the edges -/
def pairT : List Tr := [.op "add" [0, 1, 1], .op "add" [1, 0, 2]]
theorem pair_ex : exs pairT = pairT := rfl
theorem pair_good : ∀ t ∈ pairT, ∃ z as, t = .op z as ∧ GoodOp 3 2 z as := by
  intro t m
  simp only [pairT, List.mem_cons, List.not_mem_nil, or_false] at m
  rcases m with rfl | rfl
  · exact ⟨_, _, rfl, .inr (.inr (.inr ⟨rfl, 0, 1, 1, rfl, by decide, by decide, by decide, by decide, by decide, by decide, by decide⟩))⟩
  · exact ⟨_, _, rfl, .inr (.inr (.inr ⟨rfl, 1, 0, 2, rfl, by decide, by decide, by decide, by decide, by decide, by decide, by decide⟩))⟩
theorem pair_wf : wfs pairT 3 := by
  rw [pairT, wfs, wfs, wfs, Tr.wf, Tr.wf]
  exact ⟨by decide, by decide, trivial⟩
def longT (m : Int) : List Tr := [.loop m pairT]
theorem long_ok {m : Int} (h0 : 0 ≤ m) (h1 : m ≤ 10 ^ 18) : okB 5 (longT m) := ⟨by rw [longT, wfs, wfs, Tr.wf]; exact ⟨⟨h0, h1, by decide, pair_wf⟩, trivial⟩, by show 1 ≤ 1000; decide⟩
theorem long_ex (m : Int) : exs (longT m) = (List.replicate m.toNat pairT).flatten := by
  rw [longT, exs, exs, Tr.ex, List.append_nil]
  rfl
theorem pair_fine : fines pairT := by
  rw [pairT, fines, fines, fines, Tr.fine, Tr.fine]
  exact ⟨by decide, by decide, trivial⟩
theorem long_fine (m : Int) : fines (longT m) := by
  rw [longT, fines, fines, Tr.fine]
  exact ⟨⟨by decide, pair_fine⟩, trivial⟩
theorem long_good (m : Int) : Goods 3 2 (exs (longT m)) := fun t mt => by
  rw [long_ex] at mt
  obtain ⟨xs, m1, m2⟩ := List.mem_flatten.mp mt
  rw [(List.mem_replicate.mp m1).2] at m2
  exact pair_good t m2
theorem long_rc (m : Int) : rc (exs (longT m)) = 0 := by
  rw [long_ex, rc_flat]
  have : rc pairT = 0 := rfl
  rw [this, Int.mul_zero]
theorem addAt {H : Hp} {a : Addr} {x y c : Int} (h : SqT K H a [.str "add", .int x, .int y, .int c]) : TrAt K H (.op "add" [x, y, c]) (.ref a) := by
  rw [TrAt]
  exact ⟨a, rfl, h⟩
theorem pairAt {H : Hp} {c a1 a2 : Addr} (h : SqT K H c [.ref a1, .ref a2]) (h1 : SqT K H a1 [.str "add", .int 0, .int 1, .int 1]) (h2 : SqT K H a2 [.str "add", .int 1, .int 0, .int 2]) : BodyAt K H pairT (.ref c) := by
  refine ⟨c, _, rfl, h, ?_⟩
  rw [pairT, TrsAt]
  exact ⟨_, _, rfl, addAt h1, TrsAt.one (addAt h2)⟩
theorem loopAt {H : Hp} {c a : Addr} {m : Int} {b : List Tr} (h : SqT K H a [.str "loop", .int m, .ref c]) (hB : BodyAt K H b (.ref c)) : TrAt K H (.loop m b) (.ref a) := by
  obtain ⟨c', vs, e, s, t⟩ := hB
  cases e
  rw [TrAt]
  exact ⟨a, c, vs, rfl, h, s, t⟩
theorem bodyAt1 {H : Hp} {c : Addr} {v : V} {t : Tr} (h : SqT K H c [v]) (k : TrAt K H t v) : BodyAt K H [t] (.ref c) := ⟨c, _, rfl, h, TrsAt.one k⟩
theorem bodyAt2 {H : Hp} {c : Addr} {v u : V} {t s : Tr} (h : SqT K H c [v, u]) (k : TrAt K H t v) (l : TrAt K H s u) : BodyAt K H [t, s] (.ref c) := ⟨c, _, rfl, h, by rw [TrsAt]; exact ⟨_, _, rfl, k, TrsAt.one l⟩⟩
theorem setAt {H : Hp} {a : Addr} {x c : Int} (h : SqT K H a [.str "set", .int x, .int c]) : TrAt K H (.op "set" [x, c]) (.ref a) := by
  rw [TrAt]
  exact ⟨a, rfl, h⟩
def spEdges : Sp := fun vs H Q _ => ∃ u : Addr, vs = [.ref u] ∧ Urn H u ∧ ∀ H', Q (.bl true) H'
theorem hist_of {H : Hp} {t t1 t2 : Addr} {h : List Int × List Int} (a : H t = some (.tup [.ref t1, .ref t2])) (b : H t1 = some (.tup (h.1.map V.int))) (c : H t2 = some (.tup (h.2.map V.int))) : HistAt K H (.ref t) h := ⟨t, t1, t2, rfl, SqT.of a, SqT.of b, SqT.of c⟩
theorem res_hist {H : Hp} {t t1 t2 : Addr} {p : Int} {E : List Tr} {rs is : List Int} (a : H t = some (.tup [.ref t1, .ref t2])) (b : H t1 = some (.tup ((rns p is (run0 rs) E).row.tail.map V.int))) (c : H t2 = some (.tup ((rns p is (run0 rs) E).wr.map V.int))) : HistAt K H (.ref t) (res p E (rs, is)) := ⟨t, t1, t2, rfl, SqT.of a, SqT.of b, SqT.of c⟩
def lastT : List Tr := [.loop (10 ^ 18) [], .op "set" [0, 1]]
theorem last_ex : exs lastT = [.op "set" [0, 1]] := by
  rw [lastT, exs, exs, exs, Tr.ex, Tr.ex, exs, List.flatten_replicate_nil]
  rfl
theorem last_ok : okB 5 lastT := ⟨by rw [lastT, wfs, wfs, wfs, Tr.wf, Tr.wf, wfs]; exact ⟨⟨by decide, by decide, by decide, trivial⟩, by decide, trivial⟩, by show 2 ≤ 1000; decide⟩
theorem last_fine : fines lastT := by
  rw [lastT, fines, fines, fines, Tr.fine, Tr.fine, fines, exs]
  exact ⟨⟨by decide, trivial⟩, by decide, trivial⟩
theorem last_good : Goods 3 2 (exs lastT) := fun t m => by
  rw [last_ex] at m
  rw [List.mem_singleton.mp m]
  exact ⟨_, _, rfl, .inl ⟨.inl rfl, 0, 1, rfl, by decide, by decide, by decide, by decide⟩⟩
set_option maxHeartbeats 4000000 in
theorem ok_edges (M : Bl mg) (F : At K mg "_law_edges" sEdges ["_law_urn_here"]) {k : Nat} (h1 : Has P w K mg base k "run" ["p", "program", "registers", "inputs"] (spRun K 5)) (h2 : Has P w K mg base k "_law_run" ["_law_q", "_law_tree", "_law_regs", "_law_feed"] (spLrun K 5)) (h3 : Has P w K mg base k "_law_take" ["_law_urn_here", "_law_below"] spTake) (h4 : Has P w K mg base k "_law_size" ["_law_tree"] (spSize K 5)) :
    Has P w K mg base (k + 1) "_law_edges" ["_law_urn_here"] spEdges := by
  obtain ⟨_, _, cRun⟩ := h1
  obtain ⟨_, _, cLrun⟩ := h2
  obtain ⟨_, _, cTake⟩ := h3
  obtain ⟨_, _, cSize⟩ := h4
  refine Has.by F scEdges (fun vs H Q E h => ?_) (fun f cdv A out s H vs Q E hg hr h => ?_)
  · obtain ⟨_, rfl, _⟩ := h
    rfl
  obtain ⟨u, rfl, hU, q⟩ := h
  refine ⟨_, (pss_cons (ps_set (i := 1) scEdges.nd rfl (.inl rfl) (pe_tup (pa_cons (pe_tup (pa_cons pe_str (pa_cons pe_int (pa_cons pe_int (pa_cons pe_int pa_nil))))) (pa_cons (pe_tup (pa_cons pe_str (pa_cons pe_int (pa_cons pe_int (pa_cons pe_int pa_nil))))) pa_nil))))
  (pss_cons (ps_if (pt_cmpR (op_neD hr.units) (pe_cal cRun hg hr (by rfl) (pa_cons pe_int (pa_cons (pe_tup (pa_cons (pe_tup (pa_cons pe_str (pa_cons pe_int (pa_cons (pv 1) pa_nil)))) pa_nil)) (pa_cons (pe_tup (pa_cons pe_int (pa_cons pe_int pa_nil))) (pa_cons (pe_tup pa_nil) pa_nil))))) (pe_cal cLrun hg hr (by rfl) (pa_cons pe_int (pa_cons (pe_tup (pa_cons (pe_tup (pa_cons pe_str (pa_cons pe_int (pa_cons (pv 1) pa_nil)))) pa_nil)) (pa_cons (pe_tup (pa_cons pe_int (pa_cons pe_int pa_nil))) (pa_cons (pe_tup pa_nil) pa_nil))))) (nomark _))
    (pss_one (ps_ret pe_bl))
    pss_nil)
  (pss_cons (ps_set (i := 2) scEdges.nd rfl (.inl rfl) (pe_op op_add pe_int (pe_cal cTake hg hr (by rfl) (pa_cons (pv 0) (pa_cons (pe_op op_sub (pe_op op_pow pe_int pe_int) pe_int) pa_nil)))))
  (pss_cons (ps_if (pt_cmpR op_ne (pe_cal cSize hg hr (by rfl) (pa_cons (pe_tup (pa_cons (pe_tup (pa_cons pe_str (pa_cons pe_int (pa_cons (pv 1) pa_nil)))) (pa_cons (pe_tup (pa_cons pe_str (pa_cons pe_int (pa_cons pe_int pa_nil)))) pa_nil))) pa_nil)) pe_int (nomark _))
    (pss_one (ps_ret pe_bl))
    pss_nil)
  (pss_cons (ps_if (pt_cmpR op_ne (pe_cal cSize hg hr (by rfl) (pa_cons (pe_tup (pa_cons (pe_tup (pa_cons pe_str (pa_cons (pv 2) (pa_cons (pe_tup (pa_cons (pe_tup (pa_cons pe_str (pa_cons pe_int (pa_cons pe_int pa_nil)))) pa_nil)) pa_nil)))) pa_nil)) pa_nil)) (pv 2) (nomark _))
    (pss_one (ps_ret pe_bl))
    pss_nil)
  (pss_one (ps_ret (pe_cmpR (op_eqD hr.units) (pe_cal cRun hg hr (by rfl) (pa_cons pe_int (pa_cons (pe_tup (pa_cons (pe_tup (pa_cons pe_str (pa_cons (pe_op op_pow pe_int pe_int) (pa_cons (pe_tup pa_nil) pa_nil)))) (pa_cons (pe_tup (pa_cons pe_str (pa_cons pe_int (pa_cons pe_int pa_nil)))) pa_nil))) (pa_cons (pe_tup (pa_cons pe_int (pa_cons pe_int pa_nil))) (pa_cons (pe_tup pa_nil) pa_nil))))) (pe_tup (pa_cons (pe_tup (pa_cons pe_int (pa_cons pe_int pa_nil))) (pa_cons (pe_tup pa_nil) pa_nil))) (nomark _))))))))), ?_⟩
  -- the pair
  refine ⟨(by show 4 ≤ sizeLine; decide), fun a1 na1 => ?_⟩
  have r1 := same_new (o := .tup [V.str "add", V.int 0, V.int 1, V.int 1]) na1
  have g1 := upd_same (H := H) (a := a1) (o := .tup [V.str "add", V.int 0, V.int 1, V.int 1])
  generalize upd H a1 (.tup [V.str "add", V.int 0, V.int 1, V.int 1]) = H1 at r1 g1 ⊢
  refine ⟨(by show 4 ≤ sizeLine; decide), fun a2 na2 => ?_⟩
  have r2 := same_new (o := .tup [V.str "add", V.int 1, V.int 0, V.int 2]) na2
  have g2 := upd_same (H := H1) (a := a2) (o := .tup [V.str "add", V.int 1, V.int 0, V.int 2])
  generalize upd H1 a2 (.tup [V.str "add", V.int 1, V.int 0, V.int 2]) = H2 at r2 g2 ⊢
  refine ⟨(by show 2 ≤ sizeLine; decide), fun c np => ?_⟩
  have r3 := same_new (o := .tup [V.ref a1, V.ref a2]) np
  have g3 := upd_same (H := H2) (a := c) (o := .tup [V.ref a1, V.ref a2])
  generalize upd H2 c (.tup [V.ref a1, V.ref a2]) = H3 at r3 g3 ⊢
  have hP : BodyAt K H3 pairT (.ref c) := pairAt (SqT.of g3) (SqT.of (r3 _ _ (r2 _ _ g1))) (SqT.of (r3 _ _ g2))
  have u3 := ((hU.same r1).same r2).same r3
  -- run of 20000 steps
  refine ⟨_, rfl, (by show 3 ≤ sizeLine; decide), fun l4 nl4 => ?_⟩
  have r4 := same_new (o := .tup [V.str "loop", V.int 10000, V.ref c]) nl4
  have g4 := upd_same (H := H3) (a := l4) (o := .tup [V.str "loop", V.int 10000, V.ref c])
  generalize upd H3 l4 (.tup [V.str "loop", V.int 10000, V.ref c]) = H4 at r4 g4 ⊢
  refine ⟨(by show 1 ≤ sizeLine; decide), fun p5 np5 => ?_⟩
  have r5 := same_new (o := .tup [V.ref l4]) np5
  have g5 := upd_same (H := H4) (a := p5) (o := .tup [V.ref l4])
  generalize upd H4 p5 (.tup [V.ref l4]) = H5 at r5 g5 ⊢
  have b5 : BodyAt K H5 (longT 10000) (.ref p5) := bodyAt1 (SqT.of g5) (loopAt (SqT.of (r5 _ _ g4)) (hP.kt (Kt.same (r4.trans r5))))
  refine ⟨(by show 2 ≤ sizeLine; decide), fun t6 nt6 => ?_⟩
  have r6 := same_new (o := .tup [V.int 1, V.int 2]) nt6
  have g6 := upd_same (H := H5) (a := t6) (o := .tup [V.int 1, V.int 2])
  generalize upd H5 t6 (.tup [V.int 1, V.int 2]) = H6 at r6 g6 ⊢
  refine ⟨(by show 0 ≤ sizeLine; decide), fun t7 nt7 => ?_⟩
  have r7 := same_new (o := .tup []) nt7
  have g7 := upd_same (H := H6) (a := t7) (o := .tup [])
  generalize upd H6 t7 (.tup []) = H7 at r7 g7 ⊢
  have lex : (exs (longT 10000)).length = 20000 := by
    rw [long_ex, flat_len]
    rfl
  have in12 : In 3 [1, 2] := fun x m => by
    simp only [List.mem_cons, List.not_mem_nil, or_false] at m
    omega
  refine ⟨3, 2, _, longT 10000, t6, t7, [1, 2], [], rfl, b5.kt (Kt.same (r6.trans r7)), long_ok (by decide) (by decide), long_fine _, by omega, long_good _, by decide, by decide, by decide, SqT.of (r7 _ _ g6), rfl, SqT.of g7, by rw [long_rc]; exact Int.le_refl _, fun H8 t8 t81 t82 s8 n8 e8 e81 e82 => ?_⟩
  have hi8 : HistAt K H8 (.ref t8) (res 3 (exs (longT 10000)) ([1, 2], [])) := res_hist e8 e81 e82
  have s38 := (((r4.trans r5).trans r6).trans r7).trans s8
  -- the law's own
  refine ⟨_, rfl, (by show 3 ≤ sizeLine; decide), fun l9 nl9 => ?_⟩
  have r9 := same_new (o := .tup [V.str "loop", V.int 10000, V.ref c]) nl9
  have g9 := upd_same (H := H8) (a := l9) (o := .tup [V.str "loop", V.int 10000, V.ref c])
  generalize upd H8 l9 (.tup [V.str "loop", V.int 10000, V.ref c]) = H9 at r9 g9 ⊢
  refine ⟨(by show 1 ≤ sizeLine; decide), fun p10 np10 => ?_⟩
  have r10 := same_new (o := .tup [V.ref l9]) np10
  have g10 := upd_same (H := H9) (a := p10) (o := .tup [V.ref l9])
  generalize upd H9 p10 (.tup [V.ref l9]) = H10 at r10 g10 ⊢
  have b10 : BodyAt K H10 (longT 10000) (.ref p10) := bodyAt1 (SqT.of g10) (loopAt (SqT.of (r10 _ _ g9)) (hP.kt (Kt.same (s38.trans (r9.trans r10)))))
  refine ⟨(by show 2 ≤ sizeLine; decide), fun t11 nt11 => ?_⟩
  have r11 := same_new (o := .tup [V.int 1, V.int 2]) nt11
  have g11 := upd_same (H := H10) (a := t11) (o := .tup [V.int 1, V.int 2])
  generalize upd H10 t11 (.tup [V.int 1, V.int 2]) = H11 at r11 g11 ⊢
  refine ⟨(by show 0 ≤ sizeLine; decide), fun t12 nt12 => ?_⟩
  have r12 := same_new (o := .tup []) nt12
  have g12 := upd_same (H := H11) (a := t12) (o := .tup [])
  generalize upd H11 t12 (.tup []) = H12 at r12 g12 ⊢
  refine ⟨3, 2, _, longT 10000, t11, t12, [1, 2], [], rfl, b10.kt (Kt.same (r11.trans r12)), long_ok (by decide) (by decide), long_fine _, by omega, long_good _, by decide, by decide, by decide, SqT.of (r12 _ _ g11), rfl, in12, SqT.of g12, (fun x m => absurd m List.not_mem_nil), by rw [long_rc]; exact Int.le_refl _, fun H13 v13 s13 hi13 => ?_⟩
  have s8d := ((r9.trans r10).trans r11).trans (r12.trans s13)
  refine ⟨_, _, (hi8.kt (Kt.same s8d)).dp, hi13.dp, pairD_shaped _, pairD_shaped _, _, rfl, ?_⟩
  rw [SeqAt.eqv_refl _ (SeqAt.canLay_of_shaped (pairD_shaped _))]
  refine iteF ?_
  have s3d := s38.trans s8d
  have hP13 := hP.kt (Kt.same s3d)
  have u13 := u3.same s3d
  -- many
  refine ⟨_, rfl, 10, 18, rfl, rfl, ⟨by decide, by decide, by decide⟩, _, 20001, rfl, rfl, u, _, rfl, u13, by decide, wide_big (by decide) (by decide), fun mm H14 m0 m1 u14 b14 => ⟨20001, mm, rfl, rfl, ?_⟩⟩
  have hP14 := hP13.kt (u13.kt b14)
  -- 20001
  refine ⟨_, rfl, (by show 3 ≤ sizeLine; decide), fun l15 nl15 => ?_⟩
  have r15 := same_new (o := .tup [V.str "loop", V.int 10000, V.ref c]) nl15
  have g15 := upd_same (H := H14) (a := l15) (o := .tup [V.str "loop", V.int 10000, V.ref c])
  generalize upd H14 l15 (.tup [V.str "loop", V.int 10000, V.ref c]) = H15 at r15 g15 ⊢
  refine ⟨(by show 3 ≤ sizeLine; decide), fun a16 na16 => ?_⟩
  have r16 := same_new (o := .tup [V.str "set", V.int 0, V.int 1]) na16
  have g16 := upd_same (H := H15) (a := a16) (o := .tup [V.str "set", V.int 0, V.int 1])
  generalize upd H15 a16 (.tup [V.str "set", V.int 0, V.int 1]) = H16 at r16 g16 ⊢
  refine ⟨(by show 2 ≤ sizeLine; decide), fun p17 np17 => ?_⟩
  have r17 := same_new (o := .tup [V.ref l15, V.ref a16]) np17
  have g17 := upd_same (H := H16) (a := p17) (o := .tup [V.ref l15, V.ref a16])
  generalize upd H16 p17 (.tup [V.ref l15, V.ref a16]) = H17 at r17 g17 ⊢
  have b17 : BodyAt K H17 [.loop 10000 pairT, .op "set" [0, 1]] (.ref p17) := bodyAt2 (SqT.of g17) (loopAt (SqT.of (r17 _ _ (r16 _ _ g15))) (hP14.kt (Kt.same ((r15.trans r16).trans r17)))) (setAt (SqT.of (r17 _ _ g16)))
  have e17 : lens [.loop 10000 pairT, .op "set" [0, 1]] = 20001 := rfl
  refine ⟨_, _, rfl, b17, ⟨by rw [wfs, wfs, wfs, Tr.wf, Tr.wf]; exact ⟨⟨by decide, by decide, by decide, pair_wf⟩, by decide, trivial⟩, by show 2 ≤ 1000; decide⟩, by rw [e17]; decide, fun H18 s18 => ?_⟩
  rw [e17]
  refine ⟨rfl, _, rfl, iteNS rfl ?_⟩
  -- many
  refine ⟨_, rfl, (by show 3 ≤ sizeLine; decide), fun a19 na19 => ?_⟩
  have r19 := same_new (o := .tup [V.str "set", V.int 0, V.int 1]) na19
  have g19 := upd_same (H := H18) (a := a19) (o := .tup [V.str "set", V.int 0, V.int 1])
  generalize upd H18 a19 (.tup [V.str "set", V.int 0, V.int 1]) = H19 at r19 g19 ⊢
  refine ⟨(by show 1 ≤ sizeLine; decide), fun p20 np20 => ?_⟩
  have r20 := same_new (o := .tup [V.ref a19]) np20
  have g20 := upd_same (H := H19) (a := p20) (o := .tup [V.ref a19])
  generalize upd H19 p20 (.tup [V.ref a19]) = H20 at r20 g20 ⊢
  refine ⟨(by show 3 ≤ sizeLine; decide), fun l21 nl21 => ?_⟩
  have r21 := same_new (o := .tup [V.str "loop", V.int (20001 + mm), V.ref p20]) nl21
  have g21 := upd_same (H := H20) (a := l21) (o := .tup [V.str "loop", V.int (20001 + mm), V.ref p20])
  refine ⟨(by show 1 ≤ sizeLine; decide), fun p22 np22 => ?_⟩
  have r22 := same_new (o := .tup [V.ref l21]) np22
  have sb1 : BodyAt K H20 [.op "set" [0, 1]] (.ref p20) := bodyAt1 (SqT.of g20) (setAt (SqT.of (r20 _ _ g19)))
  have b22 := bodyAt1 (K := K) (SqT.of (upd_same (H := upd H20 l21 (.tup [V.str "loop", V.int (20001 + mm), V.ref p20])) (a := p22) (o := .tup [V.ref l21]))) (loopAt (SqT.of (r22 _ _ g21)) (sb1.kt (Kt.same (r21.trans r22))))
  have e22 : lens [.loop (20001 + mm) [.op "set" [0, 1]]] = 20001 + mm := by
    rw [lens, lens, Tr.len, lens, lens, Tr.len]
    omega
  have m18 : 20001 + mm ≤ 10 ^ 18 := by
    have : mm < 10 ^ 18 - 20001 := m1
    omega
  refine ⟨_, _, rfl, b22, ⟨by rw [wfs, wfs, Tr.wf, wfs, wfs, Tr.wf]; exact ⟨⟨by omega, m18, by decide, by decide, trivial⟩, trivial⟩, by show 1 ≤ 1000; decide⟩, by rw [e22]; omega, fun H23 s23 => ?_⟩
  rw [e22]
  refine ⟨_, rfl, rfl, _, rfl, iteNS rfl ?_⟩
  -- the empty loop
  refine ⟨10, 18, rfl, rfl, ⟨by decide, by decide, by decide⟩, (by show 0 ≤ sizeLine; decide), fun t24 nt24 => ?_⟩
  have r24 := same_new (o := .tup []) nt24
  have g24 := upd_same (H := H23) (a := t24) (o := .tup [])
  generalize upd H23 t24 (.tup []) = H24 at r24 g24 ⊢
  refine ⟨(by show 3 ≤ sizeLine; decide), fun l25 nl25 => ?_⟩
  have r25 := same_new (o := .tup [V.str "loop", V.int (10 ^ 18), V.ref t24]) nl25
  have g25 := upd_same (H := H24) (a := l25) (o := .tup [V.str "loop", V.int (10 ^ 18), V.ref t24])
  refine ⟨(by show 3 ≤ sizeLine; decide), fun a26 na26 => ?_⟩
  have r26 := same_new (o := .tup [V.str "set", V.int 0, V.int 1]) na26
  have g26 := upd_same (H := upd H24 l25 (.tup [V.str "loop", V.int (10 ^ 18), V.ref t24])) (a := a26) (o := .tup [V.str "set", V.int 0, V.int 1])
  refine ⟨(by show 2 ≤ sizeLine; decide), fun p27 np27 => ?_⟩
  have r27 := same_new (o := .tup [V.ref l25, V.ref a26]) np27
  have b27 := bodyAt2 (K := K) (SqT.of (upd_same (H := upd (upd H24 l25 (.tup [V.str "loop", V.int (10 ^ 18), V.ref t24])) a26 (.tup [V.str "set", V.int 0, V.int 1])) (a := p27) (o := .tup [V.ref l25, V.ref a26])))
    (loopAt (b := []) (SqT.of (r27 _ _ (r26 _ _ g25))) ⟨t24, [], rfl, (Kt.same ((r25.trans r26).trans r27)).sq (SqT.of g24), TrsAt.nil⟩) (setAt (SqT.of (r27 _ _ g26)))
  refine ⟨(by show 2 ≤ sizeLine; decide), fun t28 nt28 => ?_⟩
  have r28 := same_new (o := .tup [V.int 0, V.int 2]) nt28
  refine ⟨(by show 0 ≤ sizeLine; decide), fun t29 nt29 => ?_⟩
  have r29 := same_new (o := .tup []) nt29
  refine ⟨3, 2, _, lastT, t28, t29, [0, 2], [], rfl, b27.kt (Kt.same (r28.trans r29)), last_ok, last_fine, by rw [last_ex]; decide, last_good, by decide, by decide, by decide, (Kt.same r29).sq (SqT.of upd_same), rfl, SqT.of upd_same, by rw [last_ex]; decide, fun H30 t30 t301 t302 s30 n30 e30 e301 e302 => ?_⟩
  rw [last_ex] at e301 e302
  have hi30 : HistAt K H30 (.ref t30) ([1, 2], []) := hist_of e30 e301 e302
  refine ⟨(by show 2 ≤ sizeLine; decide), fun t31 nt31 => ?_⟩
  have r31 := same_new (o := .tup [V.int 1, V.int 2]) nt31
  refine ⟨(by show 0 ≤ sizeLine; decide), fun t32 nt32 => ?_⟩
  have r32 := same_new (o := .tup []) nt32
  refine ⟨(by show 2 ≤ sizeLine; decide), fun t33 nt33 => ?_⟩
  have r33 := same_new (o := .tup [V.ref t31, V.ref t32]) nt33
  have hi33 : HistAt K _ (.ref t33) ([1, 2], []) := ⟨t33, t31, t32, rfl, SqT.of upd_same, (Kt.same (r32.trans r33)).sq (SqT.of upd_same), (Kt.same r33).sq (SqT.of upd_same)⟩
  refine ⟨_, _, (hi30.kt (Kt.same ((r31.trans r32).trans r33))).dp, hi33.dp, pairD_shaped _, pairD_shaped _, ?_⟩
  rw [SeqAt.eqv_refl _ (SeqAt.canLay_of_shaped (pairD_shaped _))]
  exact q _
end
end K12
set_option Elab.async false
set_option linter.all false
set_option maxRecDepth 100000
set_option pp.maxSteps 500
set_option pp.deepTerms.threshold 8
set_option pp.deepTerms false
namespace K12
open PySem PySem.Spec PyProof.Rows L2 Lj
def R4 : List Int := [0, 1, 2, 3, 4]
theorem R4_bd : ∀ k ∈ R4, 0 ≤ k ∧ k ≤ ((4 : Nat) : Int) := by decide
theorem m464 : max 1 6 * mostR 4 4 6 ≤ 450 := by decide
section
variable {P : Program} {w : World} {K : PySem.W.Frag} {mg : Str → Option Value} {base : Heap}
def spLaw (K : PySem.W.Frag) : Sp := fun vs H Q _ => ∃ (a : Addr) (ns : List Int), vs = [.ref a] ∧ SqL K H a (ns.map V.int) ∧ ns.length ≤ 63 ∧ ∀ H', Q (.bl true) H'
theorem good_short {p n : Int} {z : Str} {as : List Int} (h : GoodOp p n z as) (hp : p ≤ 10007) (hn : n ≤ 8) : Short z as := by
  have big : (20000 : Nat) < 2 ^ 1000 := by decide +kernel
  refine ⟨h.w7, ?_, fun a m => ?_⟩
  · rcases h with ⟨_, _, _, rfl, _⟩ | ⟨_, _, rfl, _⟩ | ⟨_, _, _, rfl, _⟩ | ⟨_, _, _, _, rfl, _⟩ <;> simp
  · rcases h with ⟨_, x, c, rfl, h⟩ | ⟨_, x, rfl, h⟩ | ⟨_, x, y, rfl, h⟩ | ⟨_, x, y, c, rfl, h⟩ <;> simp only [List.mem_cons, List.not_mem_nil, or_false] at m
    · rcases m with rfl | rfl <;> omega
    · subst m
      omega
    · rcases m with rfl | rfl <;> omega
    · rcases m with rfl | rfl | rfl <;> omega
theorem kb_run {f : Addr} {fd : FuncData} (F : Fun K "run" "run" sRun f fd) :
    KBinds K fd ["p", "program", "registers", "inputs"] ["inputs", "registers", "program", "p"] (fun us ws => if us.isEmpty then ws.reverse else []) (fun us ws => if us.isEmpty then ws.reverse else []) := by
  obtain ⟨oc, od, kV, doc, pm, an, cdv, ct, osl, rfl, lk, hcd⟩ := F.ex
  refine ⟨fun s us ws _ hl => ?_, fun {vs us zs ws} r rz => ?_⟩
  · cases us with
    | cons u r =>
      rw [show (u :: r).isEmpty = false from rfl, if_neg Bool.false_ne_true] at hl
      cases hl
    | nil =>
      rw [show ([] : List Value).isEmpty = true from rfl, if_pos rfl, List.length_reverse] at hl
      match ws, hl with
      | [_, _, _, _], _ => exact .of_eq rfl
  · cases r with
    | nil => exact vals_rev rz
    | cons _ _ => exact .nil
def spRt : Sp := fun vs H Q _ => ∃ u : Addr, vs = [.ref u] ∧ Urn H u ∧ ∀ H', Urn H' u → But u H H' → Q (.bl true) H'
set_option maxHeartbeats 8000000 in
theorem ok_right (M : Bl mg) (F : At K mg "_law_right" sRight ["_law_urn_here"]) {k : Nat} (FR : At K mg "run" sRun ["p", "program", "registers", "inputs"])
    (h2 : Has P w K mg base k "_law_take" ["_law_urn_here", "_law_below"] spTake) (h3 : Has P w K mg base k "_law_prime" ["_law_urn_here"] spPrimeU) (h4 : Has P w K mg base k "_law_words" [] spWords)
    (h5 : Has P w K mg base k "_law_body" ["_law_urn_here", "_law_q", "_law_n", "_law_words_here", "_law_length", "_law_deep", "_law_rounds"] (spBody K 5)) (h6 : Has P w K mg base k "_law_executed" ["_law_tree"] (spExec K 5))
    (h7 : Has P w K mg base k "_law_tuple" ["_law_urn_here", "_law_q", "_law_count"] (spTupU K)) (h8 : Has P w K mg base k "_law_run" ["_law_q", "_law_tree", "_law_regs", "_law_feed"] (spLrun K 5))
    (h9 : Has P w K mg base k "run" ["p", "program", "registers", "inputs"] (spRun K 5)) : Has P w K mg base (k + 1) "_law_right" ["_law_urn_here"] spRt := by
  obtain ⟨_, _, cTake⟩ := h2
  obtain ⟨_, _, cPrime⟩ := h3
  obtain ⟨_, _, cWords⟩ := h4
  obtain ⟨_, _, cBody⟩ := h5
  obtain ⟨_, _, cExecuted⟩ := h6
  obtain ⟨_, _, cTuple⟩ := h7
  obtain ⟨_, _, cLrun⟩ := h8
  obtain ⟨_, _, cRun⟩ := h9
  have kRun := kb_run (cRun.text FR)
  refine Has.by F scRight (fun vs H Q E h => ?_) (fun f cdv A out s H vs Q E hg hr h => ?_)
  · obtain ⟨_, rfl, _⟩ := h
    rfl
  obtain ⟨u, rfl, hU, q⟩ := h
  refine ⟨_, (pss_cons (ps_par (i := 1) (j := 2) (by rfl) scRight.nd rfl rfl (by decide) rfl rfl (pa_cons (pe_cal cPrime hg hr (by rfl) (pa_cons (pv 0) pa_nil)) (pa_cons (pe_op op_add pe_int (pe_cal cTake hg hr (by rfl) (pa_cons (pv 0) (pa_cons pe_int pa_nil)))) pa_nil)) (by rfl))
  (pss_cons (ps_set (i := 3) scRight.nd rfl (.inl rfl) (pe_cal cBody hg hr (by rfl) (pa_cons (pv 0) (pa_cons (pv 1) (pa_cons (pv 2) (pa_cons (pe_cal0 cWords hg hr (by rfl)) (pa_cons pe_int (pa_cons pe_int (pa_cons (pe_lst (pa_cons pe_int (pa_cons pe_int (pa_cons pe_int (pa_cons pe_int (pa_cons pe_int pa_nil)))))) pa_nil)))))))))
  (pss_cons (ps_set (i := 4) scRight.nd rfl (.inl rfl) (pe_callB call_len_seq (by rfl) M.len_ (by decide +kernel) (pa_cons (pe_lc (own := [("_law_item_here", 10)]) (g := gName 10) (by rfl) scRight.nd (pi_list (pe_cal cExecuted hg hr (by rfl) (pa_cons (pv 3) pa_nil))) (blkOk_by (own := [("_law_item_here", 10)]) (N := ["_law_urn_here", "_law_q", "_law_n", "_law_tree", "_law_count", "_law_registers_here", "_law_fed", "_law_held", "_law_due", "_law_told", "_law_item_here"]) (sc := defScope sRight) (by decide +kernel)) (fun _ _ _ _ _ => (pg_name (i := 10) scRight.nd rfl (.inl rfl))) (fun _ _ _ _ _ => (pts_one (pt_cmpR op_eq (pe_ix (ix_tupK (K := K) rfl) (pv 10) pe_int (fun _ _ => rfl)) pe_str (nomark _)))) (fun _ _ _ _ _ => (pv 10))) pa_nil)))
  (pss_cons (ps_par (i := 5) (j := 6) (by rfl) scRight.nd rfl rfl (by decide) rfl rfl (pa_cons (pe_cal cTuple hg hr (by rfl) (pa_cons (pv 0) (pa_cons (pv 1) (pa_cons (pv 2) pa_nil)))) (pa_cons (pe_cal cTuple hg hr (by rfl) (pa_cons (pv 0) (pa_cons (pv 1) (pa_cons (pv 4) pa_nil)))) pa_nil)) (by rfl))
  (pss_cons (ps_par (i := 7) (j := 8) (by rfl) scRight.nd rfl rfl (by decide) rfl rfl (pa_cons (pe_callB (call_reprD hg hr) (by rfl) M.repr_ (by decide +kernel) (pa_cons (pe_tup (pa_cons (pv 3) (pa_cons (pv 5) (pa_cons (pv 6) pa_nil)))) pa_nil)) (pa_cons (pe_cal cLrun hg hr (by rfl) (pa_cons (pv 1) (pa_cons (pv 3) (pa_cons (pv 5) (pa_cons (pv 6) pa_nil))))) pa_nil)) (by rfl))
  (pss_cons (ps_if (pt_cmpR op_ne (pe_callB (call_reprD hg hr) (by rfl) M.repr_ (by decide +kernel) (pa_cons (pe_cal cRun hg hr (by rfl) (pa_cons (pv 1) (pa_cons (pv 3) (pa_cons (pv 5) (pa_cons (pv 6) pa_nil))))) pa_nil)) (pe_callB (call_reprD hg hr) (by rfl) M.repr_ (by decide +kernel) (pa_cons (pv 8) pa_nil)) (nomark _))
    (pss_one (ps_ret pe_bl))
    pss_nil)
  (pss_cons (ps_set (i := 9) scRight.nd rfl (.inl rfl) (pe_calK0 cRun kRun hg hr (by rfl) (pk_cons (pv 6) (pk_cons (pv 5) (pk_cons (pv 3) (pk_cons (pv 1) pk_nil))))))
  (pss_one (ps_ret (pe_and (pe_cmpR op_eq (pe_callB (call_reprD hg hr) (by rfl) M.repr_ (by decide +kernel) (pa_cons (pv 9) pa_nil)) (pe_callB (call_reprD hg hr) (by rfl) M.repr_ (by decide +kernel) (pa_cons (pv 8) pa_nil)) (nomark _)) (pe_one (pe_cmpR op_eq (pe_callB (call_reprD hg hr) (by rfl) M.repr_ (by decide +kernel) (pa_cons (pe_tup (pa_cons (pv 3) (pa_cons (pv 5) (pa_cons (pv 6) pa_nil)))) pa_nil)) (pv 7) (nomark _))))))))))))), ?_⟩
  refine ⟨_, rfl, u, rfl, hU, fun p H1 hp u1 b1 => ?_⟩
  obtain ⟨p0, p1⟩ := prs_bd hp
  refine ⟨_, rfl, u, 8, rfl, u1, by decide, wide_big (by decide) (by decide), fun n0 H2 n00 n01 u3 b2 => ⟨1, n0, rfl, rfl, _, _, rfl, ?_⟩⟩
  obtain ⟨N, eN, N1, N8⟩ : ∃ N : Nat, 1 + n0 = (N : Int) ∧ 1 ≤ N ∧ N ≤ 8 := ⟨(1 + n0).toNat, by omega, by omega, by omega⟩
  have b3 : But u H _ := b1.trans b2
  -- the program
  refine ⟨_, rfl, _, rfl, _, rfl, rfl, fun ws nws => ?_⟩
  have s4 := same_new (o := .lst (W9.map V.str)) nws
  have u4 := u3.same s4
  refine ⟨(by show 5 ≤ sizeLine; decide), fun rs nrs => ?_⟩
  have s5 := same_new (o := .lst (R4.map V.int)) nrs
  have u5 := u4.same s5
  refine ⟨u, ws, rs, p, 1 + n0, W9, R4, 6, 4, rfl, u5, p0, p1, by omega, by omega, u3.ne nws, SqL.of (s5 _ _ upd_same), (by intro z; cases z), (by decide), W9_in, u4.ne nrs, SqL.of upd_same, (by intro z; cases z), (by decide), (by decide), (by decide), fun b v H6 bl mad hB u6 b6 => ?_⟩
  have b6' : But u H H6 := ((b3.trans (But.same s4)).trans (But.same s5)).trans b6
  have hG : ∀ (z : Str) (as : List Int), (GoodOp p (1 + n0) z as ∧ (z ∈ W9 ∨ z = "set")) → z ∈ W7 := fun z as h => h.1.w7
  have big : (exs b).length ≤ 450 := by
    have h1 := mades_exR (r := 4) R4_bd b 6 4 mad
    have h2 : b.length * mostR 4 4 6 ≤ max 1 6 * mostR 4 4 6 := Nat.mul_le_mul_right _ (by omega)
    have h3 := m464
    omega
  have fin : fines b := mades_fineR (r := 4) (by decide) hG R4_bd b 6 4 (Nat.le_trans m464 (by decide)) mad
  have okb : okB 5 b := ⟨mades_wf hG (fun k h => ⟨(R4_bd k h).1, by have := (R4_bd k h).2; omega⟩) b 6 4 (by decide) mad, by omega⟩
  have gd : Goods p (1 + n0) (exs b) := fun t m => by
    obtain ⟨z, as, e, g⟩ := mades_ops b 6 4 mad t m
    exact ⟨z, as, e, g.1⟩
  -- how many reads
  refine ⟨_, rfl, v, b, rfl, hB, okb, fin, by omega, fun H7 l7 us s7 n7 h7 t7 => ?_⟩
  refine ⟨l7, rfl, ⟨_, SqL.of h7⟩, fun D nD => ?_⟩
  refine lc_list (xs := us) (fun i H' => ∃ acc : List V, H' D = some (.lst acc) ∧ (acc.length : Int) = rc ((exs b).take i) ∧ Same H7 H') ⟨[], upd_same, rfl, same_new nD⟩ (fun i H' _ ⟨_, _, _, h⟩ => SqL.of (h _ _ h7)) ?_ ?_
  · rintro i x H8 hx ⟨acc, e1, e2, e3⟩
    obtain ⟨t, ht, hT⟩ := t7.get hx
    obtain ⟨z, as, rfl, go⟩ := gd t (List.mem_of_getElem? ht)
    have hT := TrAt.kt (Kt.same e3) _ _ hT
    rw [TrAt] at hT
    obtain ⟨a, rfl, sq⟩ := hT
    have rn : rc ((exs b).take (i + 1)) = rc ((exs b).take i) + rc [.op z as] := by
      rw [List.take_add_one, ht, rc_append]
      rfl
    refine ⟨rfl, _, rfl, a, _, 0, .str z, rfl, rfl, sq, at0, rfl, _, rfl, ?_⟩
    by_cases c : z = "read"
    · subst c
      refine iteP rfl ⟨_, rfl, acc, e1, ?_, acc ++ [.ref a], upd_same, ?_, same_upd e3 nD⟩
      · have h1 := rc_le ((exs b).take i)
        rw [List.length_take] at h1
        exact small1000 (by omega)
      · rw [rn, List.length_append]
        have : rc [.op "read" as] = 1 := rfl
        rw [this, ← e2]
        rfl
    · refine iteN (fun e => c (V.str.inj e)) ⟨acc, e1, ?_, e3⟩
      have : rc [.op z as] = 0 := by
        show ((([z].count ("read" : Str) : Nat)) : Int) = 0
        rw [List.count_eq_zero_of_not_mem (fun m => c (List.mem_singleton.mp m).symm)]
        rfl
      rw [rn, this, Int.add_zero]
      exact e2
  rintro H8 ⟨acc, e81, e82, e83⟩
  rw [t7.length, List.take_length] at e82
  refine ⟨D, acc, rfl, .inl (SqL.of e81), ?_⟩
  have u8 : Urn H8 u := (u6.same s7).same e83
  have b8 : But u H H8 := b6'.trans (But.same (s7.trans e83))
  have hB8 : BodyAt K H8 b v := hB.kt (Kt.same (s7.trans e83))
  have c450 : acc.length ≤ 450 := by
    have := rc_le (exs b)
    omega
  -- the history
  refine ⟨_, rfl, _, rfl, _, rfl, u, p, N, (by rw [← eN]), u8, p0, p1, by omega, fun n1 H9 t1 l1 i1 q1 u9 b9 => ?_⟩
  refine ⟨_, rfl, _, rfl, _, rfl, u, p, acc.length, rfl, u9, p0, p1, by omega, fun n2 H10 t2 l2 i2 q2 u10 b10 => ⟨_, _, rfl, ?_⟩⟩
  have q1 := (u9.kt b10).sq q1
  have hB10 := hB8.kt ((u8.kt b9).trans (u9.kt b10))
  have bA : But u H H10 := (b8.trans b9).trans b10
  have sm1 := in_small i1 p1
  have sm2 := in_small i2 p1
  have sh0 := mades_showL (G := fun z as => GoodOp p (1 + n0) z as ∧ (z ∈ W9 ∨ z = "set")) (R := fun k => k ∈ R4) (fun z as h => good_short h.1 p1 (by omega)) (fun k h => by
    have h1 := R4_bd k h
    have h2 : (10 : Nat) < 2 ^ 1000 := by decide +kernel
    omega) b 6 4 mad
  have e64 : b.length * sbL 4 6 ≤ 5000000 := Nat.le_trans (Nat.mul_le_mul_right _ bl) (by decide)
  obtain ⟨w1, w2, w3, w4⟩ := trip_show (h := (n1, n2)) (N := 5000000) ⟨sh0.1, sh0.2.1, sh0.2.2.1, Nat.le_trans sh0.2.2.2.1 e64, sh0.2.2.2.2⟩ (by decide) (by decide) (by omega) sm1 sm2 (by show n1.length ≤ 2000; omega) (by show n2.length ≤ 2000; omega)
  have dpT : ∀ {H' : Hp} {T : Addr}, Same H10 H' → SqT K H' T [v, V.ref t1, V.ref t2] → Dp K H' (.ref T) (tripD b (n1, n2)) := fun {H' T} sH sT => by
    obtain ⟨c, vs, rfl, sc, tr⟩ := hB10.kt (Kt.same sH)
    exact .tup sT (.cons (.tup sc (trs_dp _ _ tr)) (.cons (.tup ((Kt.same sH).sq q1) (dp_ints _)) (.cons (.tup ((Kt.same sH).sq q2) (dp_ints _)) .nil)))
  have rcl : rc (exs b) ≤ n2.length := by omega
  have nl : (n1.length : Int) = 1 + n0 := by omega
  have gr := res_in (h := (n1, n2)) gd p0 i1 i2
  have rl := res_len (p := p) (h := (n1, n2)) gd
  have wcl := wc_le (exs b)
  obtain ⟨x1, x2, x3, x4⟩ := hpair_show (in_small gr.1 p1) (in_small gr.2 p1) (by rw [rl.1]; show n1.length ≤ 2000; omega) (by rw [rl.2]; omega)
  -- held, due
  refine ⟨_, rfl, _, rfl, _, rfl, (by show 3 ≤ sizeLine; decide), fun T11 nT11 => ?_⟩
  have s11 := same_new (o := .tup [v, V.ref t1, V.ref t2]) nT11
  refine ⟨_, _, rfl, dpT s11 (SqT.of upd_same), w1, w2, w3, w4, ?_⟩
  generalize upd H10 T11 (.tup [v, V.ref t1, V.ref t2]) = H11 at s11 ⊢
  refine ⟨_, rfl, _, rfl, _, rfl, _, rfl, p, 1 + n0, v, b, t1, t2, n1, n2, rfl, hB10.kt (Kt.same s11), okb, fin, by omega, gd, p0, p1, by omega, (Kt.same s11).sq q1, nl, i1, (Kt.same s11).sq q2, i2, rcl, fun H12 v12 s12 hi12 => ⟨_, _, rfl, ?_⟩⟩
  have sB := s11.trans s12
  -- run
  refine ⟨_, rfl, _, rfl, _, rfl, _, rfl, p, 1 + n0, v, b, t1, t2, n1, n2, rfl, hB10.kt (Kt.same sB), okb, fin, by omega, gd, p0, p1, by omega, (Kt.same sB).sq q1, nl, (Kt.same sB).sq q2, rcl, fun H13 t13 t131 t132 s13 n13 e13 e131 e132 => ?_⟩
  have hi13 : HistAt K H13 (.ref t13) (res p (exs b) (n1, n2)) := res_hist e13 e131 e132
  refine ⟨_, _, rfl, hi13.dp, x1, x2, x3, x4, _, rfl, _, _, rfl, (hi12.kt (Kt.same s13)).dp, x1, x2, x3, x4, rfl, _, rfl, iteNS rfl ?_⟩
  have sC := sB.trans s13
  -- by names
  refine ⟨_, rfl, _, rfl, _, rfl, _, rfl, p, 1 + n0, v, b, t1, t2, n1, n2, rfl, hB10.kt (Kt.same sC), okb, fin, by omega, gd, p0, p1, by omega, (Kt.same sC).sq q1, nl, (Kt.same sC).sq q2, rcl, fun H14 t14 t141 t142 s14 n14 e14 e141 e142 => ?_⟩
  have hi14 : HistAt K H14 (.ref t14) (res p (exs b) (n1, n2)) := res_hist e14 e141 e142
  have sD := sC.trans s14
  refine ⟨_, rfl, _, _, rfl, hi14.dp, x1, x2, x3, x4, _, rfl, _, _, rfl, (hi12.kt (Kt.same (s13.trans s14))).dp, x1, x2, x3, x4, rfl, _, rfl, iteP rfl ?_⟩
  refine ⟨_, rfl, _, rfl, _, rfl, (by show 3 ≤ sizeLine; decide), fun T15 nT15 => ?_⟩
  have s15 := same_new (o := .tup [v, V.ref t1, V.ref t2]) nT15
  refine ⟨_, _, rfl, dpT (sD.trans s15) (SqT.of upd_same), w1, w2, w3, w4, _, rfl, rfl, ?_⟩
  rw [decide_eq_true rfl]
  exact q _ (u10.same (sD.trans s15)) (bA.trans (But.same (sD.trans s15)))
end
end K12
set_option Elab.async false
set_option linter.all false
set_option maxRecDepth 100000
set_option pp.maxSteps 500
set_option pp.deepTerms.threshold 8
set_option pp.deepTerms false
namespace K12
open PySem PySem.Spec PyProof.Rows L2 Lj
section
variable {P : Program} {w : World} {K : PySem.W.Frag} {mg : Str → Option Value} {base : Heap}
theorem ok_law (M : Bl mg) (F : At K mg "law" sLaw ["_law_script"]) {k : Nat}
    (h1 : Has P w K mg base k "_law_urn" ["_law_script", "_law_k"] (spUrn K)) (h2 : Has P w K mg base k "_law_right" ["_law_urn_here"] spRt) (h3 : Has P w K mg base k "_law_edges" ["_law_urn_here"] spEdges) : Has P w K mg base (k + 1) "law" ["_law_script"] (spLaw K) := by
  obtain ⟨_, _, cUrn⟩ := h1
  obtain ⟨_, _, cRight⟩ := h2
  obtain ⟨_, _, cEdges⟩ := h3
  refine Has.by F scLaw (fun vs H Q E h => ?_) (fun f cdv A out s H vs Q E hg hr h => ?_)
  · obtain ⟨a, ns, rfl, _⟩ := h
    rfl
  obtain ⟨a, ns, rfl, hS, hl, q⟩ := h
  refine ⟨_, (pss_cons (ps_for PassesOwn.never rfl (pi_range1 (by rfl) M.range_ (pa_cons (pe_callB (call_max2 rfl) (by rfl) M.max_ (by decide +kernel) (pa_cons pe_int (pa_cons (pe_callB (call_min2 rfl) (by rfl) M.min_ (by decide +kernel) (pa_cons pe_int (pa_cons (pe_callB call_len_seq (by rfl) M.len_ (by decide +kernel) (pa_cons (pv 0) pa_nil)) pa_nil))) pa_nil))) pa_nil)) (pg_name (i := 1) scLaw.nd rfl (.inl rfl))
    (pss_cons (ps_set (i := 2) scLaw.nd rfl (.inr rfl) (pe_cal cUrn hg hr (by rfl) (pa_cons (pv 0) (pa_cons (pv 1) pa_nil))))
  (pss_one (ps_if (pt_not (pt_val (pe_callB (cr_all rfl) (by rfl) M.all_ (by decide +kernel) (pa_cons (pe_lc (own := [("_law_turn", 3)]) (g := gName 3) (by rfl) scLaw.nd (pi_range1 (by rfl) M.range_ (pa_cons pe_int pa_nil)) (blkOk_by (own := [("_law_turn", 3)]) (N := ["_law_script", "_law_k", "_law_urn_here", "_law_turn"]) (sc := defScope sLaw) (by decide +kernel)) (fun _ _ _ _ _ => (pg_name (i := 3) scLaw.nd rfl (.inl rfl))) (fun _ _ _ _ _ => pts_nil) (fun _ _ _ _ _ => (pe_cal cRight hg hr (by rfl) (pa_cons (pv 2) pa_nil)))) pa_nil))))
    (pss_one (ps_ret pe_bl))
    pss_nil))))
  (pss_one (ps_ret (pe_cal cEdges hg hr (by rfl) (pa_cons (pe_cal cUrn hg hr (by rfl) (pa_cons (pv 0) (pa_cons pe_int pa_nil))) pa_nil))))), ?_⟩
  have hlen : (ns.map V.int).length = ns.length := List.length_map _
  refine ⟨_, rfl, a, _, rfl, .inl hS, 3, _, rfl, 1, _, rfl, ?_⟩
  rw [hlen]
  obtain ⟨m, hm, hm3⟩ : ∃ m : Nat, (if (if (ns.length : Int) < 3 then (ns.length : Int) else 3) > 1 then (if (ns.length : Int) < 3 then (ns.length : Int) else 3) else 1) = (m : Int) ∧ m ≤ 3 := by
    refine ⟨(if (if (ns.length : Int) < 3 then (ns.length : Int) else 3) > 1 then (if (ns.length : Int) < 3 then (ns.length : Int) else 3) else 1).toNat, ?_, ?_⟩
    · split <;> split <;> omega
    · split <;> split <;> omega
  refine ⟨_, rfl, ?_, ?_, ?_⟩
  · rw [hm]; omega
  · rw [hm]; omega
  rw [hm]
  refine for_range (lo := 0) (n := m) (fun i σ H' => ∃ y1 y2, σ = [some (.ref a), y1, y2, none] ∧ Same H H') ⟨_, _, rfl, Same.refl _⟩ ?_ ?_
  · rintro i σ H1 hi ⟨y1, y2, rfl, sm⟩
    refine ⟨_, rfl, _, rfl, a, ns, _, rfl, sm.seq hS, by omega, by omega, fun H2 u s2 nu hU => ?_⟩
    have nHu : H u = none := sm.free nu
    have sA : Same H H2 := sm.trans s2
    refine ⟨4, rfl, by decide, by decide, fun D nD => ?_⟩
    have nDu : D ≠ u := hU.ne nD
    have nHD : H D = none := sA.free nD
    refine lc_range (lo := 0) (n := 4) (fun i H' => H' D = some (.lst ((List.replicate i true).map V.bl)) ∧ Urn H' u ∧ Same H H') ⟨upd_same, hU.same (same_new nD), sA.trans (same_new nD)⟩ ?_ ?_
    · rintro j H6 hj ⟨e1, e2, e3⟩
      refine ⟨rfl, _, rfl, u, rfl, e2, fun H7 u7 b7 => ?_⟩
      refine ⟨_, b7 _ _ nDu e1, ?_, upd_same.trans ?_, u7.but (q := D) But.upd nDu.symm, fun x o ho => ?_⟩
      · rw [List.length_map, List.length_replicate]
        exact small1000 (by omega)
      · rw [List.replicate_succ', List.map_append]
        rfl
      · rw [upd_ne (ne_of_none ho nHD)]
        exact b7 _ _ (ne_of_none ho nHu) (e3 _ _ ho)
    · rintro H6 ⟨e1, e2, e3⟩
      refine ⟨D, _, rfl, SqL.of e1, _, rfl, iteF ?_⟩
      exact ⟨_, _, rfl, e3⟩
  · rintro σ H1 ⟨y1, y2, rfl, sm⟩
    refine ⟨_, rfl, a, ns, 0, rfl, sm.seq hS, by decide, by decide, fun H2 u s2 nu hU => ?_⟩
    exact ⟨u, rfl, hU, fun H3 => q H3⟩
end
end K12
set_option Elab.async false
set_option linter.all false
set_option maxRecDepth 100000
set_option pp.maxSteps 500
set_option pp.deepTerms.threshold 8
set_option pp.deepTerms false
namespace K12
open PySem PySem.Spec PyProof.Rows L2 Lj
set_option maxHeartbeats 8000000
theorem all_mk {l : PySem.W.OpenLaw} {w : World} {K : PySem.W.Frag} {h : Heap} {mg : Str → Option Value} {fa f0 f1 f2 f3 f4 f5 f6 f7 f8 f9 f10 f11 f12 f13 f14 f15 f16 f17 f18 f19 : Addr} (X : K.In h) (G : h.Ns mainGlobals mg) (hfa : mg "law" = some (.ref fa))
    {od0 an0 od1 an1 od2 an2 od3 an3 od4 an4 od5 an5 od6 an6 od7 an7 od8 an8 od9 an9 od10 an10 od11 an11 od12 an12 od13 an13 od14 an14 od15 an15 od16 an16 od17 an17 od18 an18 od19 an19 : Option Addr} {sl0 sl1 sl2 sl3 sl4 sl5 sl6 sl7 sl8 sl9 sl10 sl11 sl12 sl13 sl14 sl15 sl16 sl17 sl18 sl19 : Array (Option Value)} {oc0 kV0 dc0 pm0 cd0 ct0 oc1 kV1 dc1 pm1 cd1 ct1 oc2 kV2 dc2 pm2 cd2 ct2 oc3 kV3 dc3 pm3 cd3 ct3 oc4 kV4 dc4 pm4 cd4 ct4 oc5 kV5 dc5 pm5 cd5 ct5 oc6 kV6 dc6 pm6 cd6 ct6 oc7 kV7 dc7 pm7 cd7 ct7 oc8 kV8 dc8 pm8 cd8 ct8 oc9 kV9 dc9 pm9 cd9 ct9 oc10 kV10 dc10 pm10 cd10 ct10 oc11 kV11 dc11 pm11 cd11 ct11 oc12 kV12 dc12 pm12 cd12 ct12 oc13 kV13 dc13 pm13 cd13 ct13 oc14 kV14 dc14 pm14 cd14 ct14 oc15 kV15 dc15 pm15 cd15 ct15 oc16 kV16 dc16 pm16 cd16 ct16 oc17 kV17 dc17 pm17 cd17 ct17 oc18 kV18 dc18 pm18 cd18 ct18 oc19 kV19 dc19 pm19 cd19 ct19 : Value}
    (a0 : PySem.W.nsIn K mainGlobals "step_count" = some (some (.ref f0))) (l0 : K.lookup f0 = some ⟨oc0, od0, .func (PySem.W.fnOf "step_count" "step_count" (defArgs sStep_count) (defBody sStep_count) (defScope sStep_count) .none kV0 dc0 pm0 an0 cd0 ct0), sl0⟩) (c0 : PySem.W.codeIn K cd0 "step_count" = true) (k0 : PySem.W.keepIn K (.ref f0) = true)
    (a1 : PySem.W.nsIn K mainGlobals "length" = some (some (.ref f1))) (l1 : K.lookup f1 = some ⟨oc1, od1, .func (PySem.W.fnOf "length" "length" (defArgs sLength) (defBody sLength) (defScope sLength) .none kV1 dc1 pm1 an1 cd1 ct1), sl1⟩) (c1 : PySem.W.codeIn K cd1 "length" = true) (k1 : PySem.W.keepIn K (.ref f1) = true)
    (a2 : PySem.W.nsIn K mainGlobals "executed" = some (some (.ref f2))) (l2 : K.lookup f2 = some ⟨oc2, od2, .func (PySem.W.fnOf "executed" "executed" (defArgs sPexecuted) (defBody sPexecuted) (defScope sPexecuted) .none kV2 dc2 pm2 an2 cd2 ct2), sl2⟩) (c2 : PySem.W.codeIn K cd2 "executed" = true) (k2 : PySem.W.keepIn K (.ref f2) = true)
    (a3 : PySem.W.nsIn K mainGlobals "run" = some (some (.ref f3))) (l3 : K.lookup f3 = some ⟨oc3, od3, .func (PySem.W.fnOf "run" "run" (defArgs sRun) (defBody sRun) (defScope sRun) .none kV3 dc3 pm3 an3 cd3 ct3), sl3⟩) (c3 : PySem.W.codeIn K cd3 "run" = true) (k3 : PySem.W.keepIn K (.ref f3) = true)
    (a4 : PySem.W.nsIn K mainGlobals "unrolled" = some (some (.ref f4))) (l4 : K.lookup f4 = some ⟨oc4, od4, .func (PySem.W.fnOf "unrolled" "unrolled" (defArgs sUnrolled) (defBody sUnrolled) (defScope sUnrolled) .none kV4 dc4 pm4 an4 cd4 ct4), sl4⟩) (c4 : PySem.W.codeIn K cd4 "unrolled" = true) (k4 : PySem.W.keepIn K (.ref f4) = true)
    (a5 : PySem.W.nsIn K mainGlobals "_law_urn" = some (some (.ref f5))) (l5 : K.lookup f5 = some ⟨oc5, od5, .func (PySem.W.fnOf "_law_urn" "_law_urn" (defArgs sUrn) (defBody sUrn) (defScope sUrn) .none kV5 dc5 pm5 an5 cd5 ct5), sl5⟩) (c5 : PySem.W.codeIn K cd5 "_law_urn" = true) (k5 : PySem.W.keepIn K (.ref f5) = true)
    (a6 : PySem.W.nsIn K mainGlobals "_law_take" = some (some (.ref f6))) (l6 : K.lookup f6 = some ⟨oc6, od6, .func (PySem.W.fnOf "_law_take" "_law_take" (defArgs sTake) (defBody sTake) (defScope sTake) .none kV6 dc6 pm6 an6 cd6 ct6), sl6⟩) (c6 : PySem.W.codeIn K cd6 "_law_take" = true) (k6 : PySem.W.keepIn K (.ref f6) = true)
    (a7 : PySem.W.nsIn K mainGlobals "_law_of" = some (some (.ref f7))) (l7 : K.lookup f7 = some ⟨oc7, od7, .func (PySem.W.fnOf "_law_of" "_law_of" (defArgs sOf) (defBody sOf) (defScope sOf) .none kV7 dc7 pm7 an7 cd7 ct7), sl7⟩) (c7 : PySem.W.codeIn K cd7 "_law_of" = true) (k7 : PySem.W.keepIn K (.ref f7) = true)
    (a8 : PySem.W.nsIn K mainGlobals "_law_prime" = some (some (.ref f8))) (l8 : K.lookup f8 = some ⟨oc8, od8, .func (PySem.W.fnOf "_law_prime" "_law_prime" (defArgs sPrime) (defBody sPrime) (defScope sPrime) .none kV8 dc8 pm8 an8 cd8 ct8), sl8⟩) (c8 : PySem.W.codeIn K cd8 "_law_prime" = true) (k8 : PySem.W.keepIn K (.ref f8) = true)
    (a9 : PySem.W.nsIn K mainGlobals "_law_item" = some (some (.ref f9))) (l9 : K.lookup f9 = some ⟨oc9, od9, .func (PySem.W.fnOf "_law_item" "_law_item" (defArgs sItem) (defBody sItem) (defScope sItem) .none kV9 dc9 pm9 an9 cd9 ct9), sl9⟩) (c9 : PySem.W.codeIn K cd9 "_law_item" = true) (k9 : PySem.W.keepIn K (.ref f9) = true)
    (a10 : PySem.W.nsIn K mainGlobals "_law_body" = some (some (.ref f10))) (l10 : K.lookup f10 = some ⟨oc10, od10, .func (PySem.W.fnOf "_law_body" "_law_body" (defArgs sBody) (defBody sBody) (defScope sBody) .none kV10 dc10 pm10 an10 cd10 ct10), sl10⟩) (c10 : PySem.W.codeIn K cd10 "_law_body" = true) (k10 : PySem.W.keepIn K (.ref f10) = true)
    (a11 : PySem.W.nsIn K mainGlobals "_law_words" = some (some (.ref f11))) (l11 : K.lookup f11 = some ⟨oc11, od11, .func (PySem.W.fnOf "_law_words" "_law_words" (defArgs sWords) (defBody sWords) (defScope sWords) .none kV11 dc11 pm11 an11 cd11 ct11), sl11⟩) (c11 : PySem.W.codeIn K cd11 "_law_words" = true) (k11 : PySem.W.keepIn K (.ref f11) = true)
    (a12 : PySem.W.nsIn K mainGlobals "_law_executed" = some (some (.ref f12))) (l12 : K.lookup f12 = some ⟨oc12, od12, .func (PySem.W.fnOf "_law_executed" "_law_executed" (defArgs sExecuted) (defBody sExecuted) (defScope sExecuted) .none kV12 dc12 pm12 an12 cd12 ct12), sl12⟩) (c12 : PySem.W.codeIn K cd12 "_law_executed" = true) (k12 : PySem.W.keepIn K (.ref f12) = true)
    (a13 : PySem.W.nsIn K mainGlobals "_law_after" = some (some (.ref f13))) (l13 : K.lookup f13 = some ⟨oc13, od13, .func (PySem.W.fnOf "_law_after" "_law_after" (defArgs sAfter) (defBody sAfter) (defScope sAfter) .none kV13 dc13 pm13 an13 cd13 ct13), sl13⟩) (c13 : PySem.W.codeIn K cd13 "_law_after" = true) (k13 : PySem.W.keepIn K (.ref f13) = true)
    (a14 : PySem.W.nsIn K mainGlobals "_law_tuple" = some (some (.ref f14))) (l14 : K.lookup f14 = some ⟨oc14, od14, .func (PySem.W.fnOf "_law_tuple" "_law_tuple" (defArgs sTuple) (defBody sTuple) (defScope sTuple) .none kV14 dc14 pm14 an14 cd14 ct14), sl14⟩) (c14 : PySem.W.codeIn K cd14 "_law_tuple" = true) (k14 : PySem.W.keepIn K (.ref f14) = true)
    (a15 : PySem.W.nsIn K mainGlobals "_law_run" = some (some (.ref f15))) (l15 : K.lookup f15 = some ⟨oc15, od15, .func (PySem.W.fnOf "_law_run" "_law_run" (defArgs sLrun) (defBody sLrun) (defScope sLrun) .none kV15 dc15 pm15 an15 cd15 ct15), sl15⟩) (c15 : PySem.W.codeIn K cd15 "_law_run" = true) (k15 : PySem.W.keepIn K (.ref f15) = true)
    (a16 : PySem.W.nsIn K mainGlobals "_law_size" = some (some (.ref f16))) (l16 : K.lookup f16 = some ⟨oc16, od16, .func (PySem.W.fnOf "_law_size" "_law_size" (defArgs sSize) (defBody sSize) (defScope sSize) .none kV16 dc16 pm16 an16 cd16 ct16), sl16⟩) (c16 : PySem.W.codeIn K cd16 "_law_size" = true) (k16 : PySem.W.keepIn K (.ref f16) = true)
    (a17 : PySem.W.nsIn K mainGlobals "_law_edges" = some (some (.ref f17))) (l17 : K.lookup f17 = some ⟨oc17, od17, .func (PySem.W.fnOf "_law_edges" "_law_edges" (defArgs sEdges) (defBody sEdges) (defScope sEdges) .none kV17 dc17 pm17 an17 cd17 ct17), sl17⟩) (c17 : PySem.W.codeIn K cd17 "_law_edges" = true) (k17 : PySem.W.keepIn K (.ref f17) = true)
    (a18 : PySem.W.nsIn K mainGlobals "_law_right" = some (some (.ref f18))) (l18 : K.lookup f18 = some ⟨oc18, od18, .func (PySem.W.fnOf "_law_right" "_law_right" (defArgs sRight) (defBody sRight) (defScope sRight) .none kV18 dc18 pm18 an18 cd18 ct18), sl18⟩) (c18 : PySem.W.codeIn K cd18 "_law_right" = true) (k18 : PySem.W.keepIn K (.ref f18) = true)
    (a19 : PySem.W.nsIn K mainGlobals "law" = some (some (.ref f19))) (l19 : K.lookup f19 = some ⟨oc19, od19, .func (PySem.W.fnOf "law" "law" (defArgs sLaw) (defBody sLaw) (defScope sLaw) .none kV19 dc19 pm19 an19 cd19 ct19), sl19⟩) (c19 : PySem.W.codeIn K cd19 "law" = true) (k19 : PySem.W.keepIn K (.ref f19) = true)
    (z0 : PySem.W.nsIn K mainGlobals "len" = some none)
    (z1 : PySem.W.nsIn K mainGlobals "abs" = some none)
    (z2 : PySem.W.nsIn K mainGlobals "int" = some none)
    (z3 : PySem.W.nsIn K mainGlobals "range" = some none)
    (z4 : PySem.W.nsIn K mainGlobals "max" = some none)
    (z5 : PySem.W.nsIn K mainGlobals "min" = some none)
    (z6 : PySem.W.nsIn K mainGlobals "all" = some none)
    (z7 : PySem.W.nsIn K mainGlobals "sum" = some none)
    (z8 : PySem.W.nsIn K mainGlobals "list" = some none)
    (z9 : PySem.W.nsIn K mainGlobals "tuple" = some none)
    (z10 : PySem.W.nsIn K mainGlobals "isinstance" = some none)
    (z11 : PySem.W.nsIn K mainGlobals "bool" = some none)
    (z12 : PySem.W.nsIn K mainGlobals "repr" = some none)
    (z13 : PySem.W.nsIn K mainGlobals "enumerate" = some none)
    (z14 : PySem.W.nsIn K mainGlobals "zip" = some none)
    (z15 : PySem.W.nsIn K mainGlobals "divmod" = some none)
    {tk0 : Tok} (v0 : PySem.W.nsIn K mainGlobals "MAX_STEPS" = some (some (.int 20000 tk0)))
    {CR fRRinit fRRperform : Addr} {odRRinit anRRinit odRRperform anRRperform : Option Addr} {slRRinit slRRperform : Array (Option Value)} {ocRRinit kVRRinit dcRRinit pmRRinit cdRRinit ctRRinit ocRRperform kVRRperform dcRRperform pmRRperform cdRRperform ctRRperform : Value}
    (aCR : PySem.W.nsIn K mainGlobals "Runner" = some (some (.ref CR)))
    (aRRinit : PySem.W.findIn K (.ref CR) "__init__" = some (some (.ref fRRinit))) (iRRinit : PySem.W.isFn K (.ref fRRinit) = true) (lRRinit : K.lookup fRRinit = some ⟨ocRRinit, odRRinit, .func (PySem.W.fnOf "__init__" "Runner.__init__" (defArgs sRinit) (defBody sRinit) (defScope sRinit) .none kVRRinit dcRRinit pmRRinit anRRinit cdRRinit ctRRinit), slRRinit⟩) (cRRinit : PySem.W.codeIn K cdRRinit "Runner.__init__" = true) (kRRinit : PySem.W.keepIn K (.ref fRRinit) = true)
    (aRRperform : PySem.W.findIn K (.ref CR) "perform" = some (some (.ref fRRperform))) (iRRperform : PySem.W.isFn K (.ref fRRperform) = true) (lRRperform : K.lookup fRRperform = some ⟨ocRRperform, odRRperform, .func (PySem.W.fnOf "perform" "Runner.perform" (defArgs sRperform) (defBody sRperform) (defScope sRperform) .none kVRRperform dcRRperform pmRRperform anRRperform cdRRperform ctRRperform), slRRperform⟩) (cRRperform : PySem.W.codeIn K cdRRperform "Runner.perform" = true) (kRRperform : PySem.W.keepIn K (.ref fRRperform) = true)
    (pgR : PySem.W.plainGet K CR Str.empty = true) (hdR : PySem.W.hasDictIn K CR = true) (poR : PySem.W.plainOver K CR = true) (saR : PySem.W.findIn K (.ref CR) "__setattr__" = some (some (.builtin "object.__setattr__"))) (mkR : PySem.W.makesIn K CR = true) (kcR : PySem.W.keepIn K (.ref CR) = true)
    (nR0 : PySem.W.findIn K (.ref CR) "p" = some none)
    (nR1 : PySem.W.findIn K (.ref CR) "row" = some none)
    (nR2 : PySem.W.findIn K (.ref CR) "given" = some none)
    (nR3 : PySem.W.findIn K (.ref CR) "taken" = some none)
    (nR4 : PySem.W.findIn K (.ref CR) "written" = some none)
    {CJ C0 C1 C2 CL fL NL cdaL ccL : Addr} {ddL odL anL cddL cldL : Option Addr} {slL ccsL cslL : Array (Option Value)} {ocL dcL pmL ctL cclL clL : Value} {nmL qL fileL : Str} {tfL : Tok} {bsL subL : List Value}
    (aEJ : PySem.W.nsIn K mainGlobals "JournalError" = some (some (.ref CJ))) (eEJ : PySem.W.subIn K (.ref CJ) (.type "BaseException") = some true) (hEJ : PySem.W.hasDictIn K CJ = true) (yEJ : PySem.W.typeIn K (.ref CJ) = some (.type "type"))
    (zsu : PySem.W.nsIn K mainGlobals "super" = some none) (zve : PySem.W.nsIn K mainGlobals "ValueError" = some none) (zop : PySem.W.nsIn K PySem.cStatics "thirdparty.any" = some none) (ztp : (l.prog.main.scope.names.lookup ("super" : Str)).isSome = false)
    (aE0 : PySem.W.nsIn K mainGlobals "BadInputs" = some (some (.ref C0)))
    (aE1 : PySem.W.nsIn K mainGlobals "BadProgram" = some (some (.ref C1)))
    (aE2 : PySem.W.nsIn K mainGlobals "TooDeep" = some (some (.ref C2)))
    {snL : List Str} {abL : Bool} {colL : Option Bool} {m0L m1L m2L m3L m5L : Option Value} {vsL : Array Value}
    (aEL : PySem.W.nsIn K mainGlobals "TooLong" = some (some (.ref CL))) (xEL : K.lookup CL = some (excClassObj nmL qL CL NL bsL [.ref CJ, .type "ValueError", .type "Exception", .type "BaseException", .type "object"] true snL subL abL colL ddL m0L m1L m2L m3L m5L "ValueError.__new__")) (saEL : PySem.W.findIn K (.ref CL) "__setattr__" = some (some (.builtin "object.__setattr__"))) (gEL1 : PySem.W.findIn K (.ref CL) "__getattribute__" = some (some (.builtin "BaseException.__getattribute__"))) (gEL2 : PySem.W.findIn K (.ref CL) "__getattr__" = some none) (nEL : PySem.W.findIn K (.ref CL) "size" = some none) (iEL : PySem.W.findIn K (.ref CL) "__init__" = some (some (.ref fL))) (tEL : PySem.W.typeIn K (.ref fL) = some (.type "function")) (kEL : PySem.W.keepIn K (.ref CL) = true) (eEL : PySem.W.subIn K (.ref CL) (.type "BaseException") = some true) (vEL : PySem.W.subIn K (.ref CL) (.type "ValueError") = some true) (yEL : PySem.W.typeIn K (.ref CL) = some (.type "type")) (hEL : PySem.W.hasDictIn K CL = true) (rEL : PySem.W.mroIn K CL (.ref CL) = some true) (uEL : PySem.W.ks_superIn K CL CL "__init__" = some (some (.builtin "ValueError.__init__"))) (lEL : K.lookup fL = some ⟨ocL, odL, .func (PySem.W.ksFn "__init__" "TooLong.__init__" (defArgs sEL) (defBody sEL) (defScope sEL) .none .none dcL pmL anL (.ref cdaL) ctL ccL), slL⟩) (cEL : PySem.W.codeIn K (.ref cdaL) "TooLong.__init__" = true) (dEL : K.lookup cdaL = some ⟨cclL, cddL, .fields vsL, ccsL⟩) (wEL : vsL[2]? = some (.str fileL tfL)) (oEL : ((l.prog.main.file : Str) == fileL) = true) (qEL : K.lookup ccL = some ⟨clL, cldL, .cell (some (.ref CL)), cslL⟩) (jEL : PySem.W.subIn K (.ref CL) (.ref CJ) = some true) (bEL1 : PySem.W.findIn K (.ref CL) "__class__" = some (some (.builtin "object.__class__"))) (bEL2 : PySem.W.specialIn K (.builtin "object.__class__") "__get__" = some (some (.builtin "getset_descriptor.__get__"))) (bEL3 : PySem.W.takesIn K (.builtin "object.__class__") = some true) (bEL4 : PySem.W.mroIn K CL (.type "object") = some true)
    (kkV : PySem.W.kitOne K (.ref CL) (.type "ValueError") = some true)
    (kkO : PySem.W.kitAny K (.ref CL) [.ref C0, .ref C1, .ref C2] = some false)
    : ∃ fd : FuncData, (∀ (s : Shared) (v : Value), BindsTo s fd ⟨[v], []⟩ [("_law_script", v)]) ∧ ∀ base : Heap, K.In base → base.Ns mainGlobals mg → FnG l.prog w K mg base 14 fa fd ["_law_script"] (spLaw K) := by
  have FStep_count := fun_mk (st := sStep_count) l0 c0 k0
  have AStep_count : At K mg "step_count" sStep_count ["program"] := ⟨_, _, FStep_count, FStep_count.binds (ps := ["program"]) fun _ _ _ _ _ _ us hl => match us, hl with | [_], _ => rfl, PySem.W.mg_of X G a0⟩
  have FLength := fun_mk (st := sLength) l1 c1 k1
  have ALength : At K mg "length" sLength ["instruction"] := ⟨_, _, FLength, FLength.binds (ps := ["instruction"]) fun _ _ _ _ _ _ us hl => match us, hl with | [_], _ => rfl, PySem.W.mg_of X G a1⟩
  have FPexecuted := fun_mk (st := sPexecuted) l2 c2 k2
  have APexecuted : At K mg "executed" sPexecuted ["p", "instruction", "row"] := ⟨_, _, FPexecuted, FPexecuted.binds (ps := ["p", "instruction", "row"]) fun _ _ _ _ _ _ us hl => match us, hl with | [_, _, _], _ => rfl, PySem.W.mg_of X G a2⟩
  have FRun := fun_mk (st := sRun) l3 c3 k3
  have ARun : At K mg "run" sRun ["p", "program", "registers", "inputs"] := ⟨_, _, FRun, FRun.binds (ps := ["p", "program", "registers", "inputs"]) fun _ _ _ _ _ _ us hl => match us, hl with | [_, _, _, _], _ => rfl, PySem.W.mg_of X G a3⟩
  have FUnrolled := fun_mk (st := sUnrolled) l4 c4 k4
  have AUnrolled : At K mg "unrolled" sUnrolled ["program"] := ⟨_, _, FUnrolled, FUnrolled.binds (ps := ["program"]) fun _ _ _ _ _ _ us hl => match us, hl with | [_], _ => rfl, PySem.W.mg_of X G a4⟩
  have FUrn := fun_mk (st := sUrn) l5 c5 k5
  have AUrn : At K mg "_law_urn" sUrn ["_law_script", "_law_k"] := ⟨_, _, FUrn, FUrn.binds (ps := ["_law_script", "_law_k"]) fun _ _ _ _ _ _ us hl => match us, hl with | [_, _], _ => rfl, PySem.W.mg_of X G a5⟩
  have FTake := fun_mk (st := sTake) l6 c6 k6
  have ATake : At K mg "_law_take" sTake ["_law_urn_here", "_law_below"] := ⟨_, _, FTake, FTake.binds (ps := ["_law_urn_here", "_law_below"]) fun _ _ _ _ _ _ us hl => match us, hl with | [_, _], _ => rfl, PySem.W.mg_of X G a6⟩
  have FOf := fun_mk (st := sOf) l7 c7 k7
  have AOf : At K mg "_law_of" sOf ["_law_urn_here", "_law_items"] := ⟨_, _, FOf, FOf.binds (ps := ["_law_urn_here", "_law_items"]) fun _ _ _ _ _ _ us hl => match us, hl with | [_, _], _ => rfl, PySem.W.mg_of X G a7⟩
  have FPrime := fun_mk (st := sPrime) l8 c8 k8
  have APrime : At K mg "_law_prime" sPrime ["_law_urn_here"] := ⟨_, _, FPrime, FPrime.binds (ps := ["_law_urn_here"]) fun _ _ _ _ _ _ us hl => match us, hl with | [_], _ => rfl, PySem.W.mg_of X G a8⟩
  have FItem := fun_mk (st := sItem) l9 c9 k9
  have AItem : At K mg "_law_item" sItem ["_law_urn_here", "_law_q", "_law_n", "_law_words_here"] := ⟨_, _, FItem, FItem.binds (ps := ["_law_urn_here", "_law_q", "_law_n", "_law_words_here"]) fun _ _ _ _ _ _ us hl => match us, hl with | [_, _, _, _], _ => rfl, PySem.W.mg_of X G a9⟩
  have FBody := fun_mk (st := sBody) l10 c10 k10
  have ABody : At K mg "_law_body" sBody ["_law_urn_here", "_law_q", "_law_n", "_law_words_here", "_law_length", "_law_deep", "_law_rounds"] := ⟨_, _, FBody, FBody.binds (ps := ["_law_urn_here", "_law_q", "_law_n", "_law_words_here", "_law_length", "_law_deep", "_law_rounds"]) fun _ _ _ _ _ _ us hl => match us, hl with | [_, _, _, _, _, _, _], _ => rfl, PySem.W.mg_of X G a10⟩
  have FWords := fun_mk (st := sWords) l11 c11 k11
  have AWords : At K mg "_law_words" sWords [] := ⟨_, _, FWords, FWords.binds (ps := []) fun _ _ _ _ _ _ us hl => match us, hl with | [], _ => rfl, PySem.W.mg_of X G a11⟩
  have FExecuted := fun_mk (st := sExecuted) l12 c12 k12
  have AExecuted : At K mg "_law_executed" sExecuted ["_law_tree"] := ⟨_, _, FExecuted, FExecuted.binds (ps := ["_law_tree"]) fun _ _ _ _ _ _ us hl => match us, hl with | [_], _ => rfl, PySem.W.mg_of X G a12⟩
  have FAfter := fun_mk (st := sAfter) l13 c13 k13
  have AAfter : At K mg "_law_after" sAfter ["_law_q", "_law_item_here", "_law_regs", "_law_value"] := ⟨_, _, FAfter, FAfter.binds (ps := ["_law_q", "_law_item_here", "_law_regs", "_law_value"]) fun _ _ _ _ _ _ us hl => match us, hl with | [_, _, _, _], _ => rfl, PySem.W.mg_of X G a13⟩
  have FTuple := fun_mk (st := sTuple) l14 c14 k14
  have ATuple : At K mg "_law_tuple" sTuple ["_law_urn_here", "_law_q", "_law_count"] := ⟨_, _, FTuple, FTuple.binds (ps := ["_law_urn_here", "_law_q", "_law_count"]) fun _ _ _ _ _ _ us hl => match us, hl with | [_, _, _], _ => rfl, PySem.W.mg_of X G a14⟩
  have FLrun := fun_mk (st := sLrun) l15 c15 k15
  have ALrun : At K mg "_law_run" sLrun ["_law_q", "_law_tree", "_law_regs", "_law_feed"] := ⟨_, _, FLrun, FLrun.binds (ps := ["_law_q", "_law_tree", "_law_regs", "_law_feed"]) fun _ _ _ _ _ _ us hl => match us, hl with | [_, _, _, _], _ => rfl, PySem.W.mg_of X G a15⟩
  have FSize := fun_mk (st := sSize) l16 c16 k16
  have ASize : At K mg "_law_size" sSize ["_law_tree"] := ⟨_, _, FSize, FSize.binds (ps := ["_law_tree"]) fun _ _ _ _ _ _ us hl => match us, hl with | [_], _ => rfl, PySem.W.mg_of X G a16⟩
  have FEdges := fun_mk (st := sEdges) l17 c17 k17
  have AEdges : At K mg "_law_edges" sEdges ["_law_urn_here"] := ⟨_, _, FEdges, FEdges.binds (ps := ["_law_urn_here"]) fun _ _ _ _ _ _ us hl => match us, hl with | [_], _ => rfl, PySem.W.mg_of X G a17⟩
  have FRight := fun_mk (st := sRight) l18 c18 k18
  have ARight : At K mg "_law_right" sRight ["_law_urn_here"] := ⟨_, _, FRight, FRight.binds (ps := ["_law_urn_here"]) fun _ _ _ _ _ _ us hl => match us, hl with | [_], _ => rfl, PySem.W.mg_of X G a18⟩
  have FLaw := fun_mk (st := sLaw) l19 c19 k19
  have ALaw : At K mg "law" sLaw ["_law_script"] := ⟨_, _, FLaw, FLaw.binds (ps := ["_law_script"]) fun _ _ _ _ _ _ us hl => match us, hl with | [_], _ => rfl, PySem.W.mg_of X G a19⟩
  have FRRinit := fun_mk (st := sRinit) lRRinit cRRinit kRRinit
  have bRRinit := FRRinit.binds (ps := ["self", "p", "registers", "inputs"]) fun _ _ _ _ _ _ us hl => match us, hl with | [_, _, _, _], _ => rfl
  have FRRperform := fun_mk (st := sRperform) lRRperform cRRperform kRRperform
  have bRRperform := FRRperform.binds (ps := ["self", "instruction"]) fun _ _ _ _ _ _ us hl => match us, hl with | [_, _], _ => rfl
  have gCR := PySem.W.mg_of X G aCR
  have gEJ := PySem.W.mg_of X G aEJ
  have gSU := PySem.W.mg_none_of X G zsu
  have gVE := PySem.W.mg_none_of X G zve
  have gE0 := PySem.W.mg_of X G aE0
  have gE1 := PySem.W.mg_of X G aE1
  have gE2 := PySem.W.mg_of X G aE2
  have gEL := PySem.W.mg_of X G aEL
  rw [show defArgs sEL = (eA "size" ⟨19, 17, 19, 21⟩ ⟨19, 23, 19, 27⟩) from rfl, show defBody sEL = (eB "size" "too many steps or instructions" ⟨20, 8, 20, 13⟩ ⟨20, 8, 20, 15⟩ ⟨20, 8, 20, 24⟩ ⟨20, 25, 20, 57⟩ ⟨20, 8, 20, 58⟩ ⟨20, 8, 20, 58⟩ ⟨21, 8, 21, 12⟩ ⟨21, 8, 21, 17⟩ ⟨21, 20, 21, 24⟩ ⟨21, 8, 21, 24⟩) from rfl, show defScope sEL = eS "size" from rfl] at lEL
  have TL : ErrTxt l.prog K mg "TooLong" "size" CL fL := { nm := nm_size, gC := gEL, cls := ⟨_, _, _, _, _, _, _, _, _, _, _, _, _, _, _, xEL, (by show PySem.HandSPX.refsVE [.type "ValueError", .type "Exception", .type "BaseException", .type "object"] = true; decide +kernel)⟩, sa := saEL, ga := gEL1, gg := gEL2, noN := nEL, iC := iEL, tC := tEL, kC := kEL, exC := eEL, veC := vEL, tyC := yEL, hdC := hEL, mrC := rEL, suC := uEL, op := zop, gS := gSU, top := ztp, fn := ⟨_, _, _, _, _, _, _, _, _, _, _, _, _, _, _, _, _, _, _, _, _, _, _, _, _, _, _, _, _, _, _, _, lEL, cEL, dEL, wEL, oEL, by decide, qEL⟩ }
  have BL : PySem.W.exmOne K (.ref CL) (.ref CJ) = some true := PySem.W.exm_ref eEJ hEJ yEJ jEL
  have XL : ExcC K CL := ⟨gEL1, gEL2, eEL, hEL, bEL1, bEL2, bEL3, bEL4⟩
  have M : Bl mg := ⟨PySem.W.mg_none_of X G z0, PySem.W.mg_none_of X G z1, PySem.W.mg_none_of X G z2, PySem.W.mg_none_of X G z3, PySem.W.mg_none_of X G z4, PySem.W.mg_none_of X G z5, PySem.W.mg_none_of X G z6, PySem.W.mg_none_of X G z7, PySem.W.mg_none_of X G z8, PySem.W.mg_none_of X G z9, PySem.W.mg_none_of X G z10, PySem.W.mg_none_of X G z11, PySem.W.mg_none_of X G z12, PySem.W.mg_none_of X G z13, PySem.W.mg_none_of X G z14, PySem.W.mg_none_of X G z15⟩
  have g_MAX_STEPS := PySem.W.mg_of X G v0
  refine ⟨PySem.W.fnOf "law" "law" (defArgs sLaw) (defBody sLaw) (defScope sLaw) .none kV19 dc19 pm19 an19 cd19 ct19, fun s v => .of_eq rfl, fun base _ _ => ?_⟩
  have T : RTxt K mg CR := ⟨⟨pgR, hdR, poR, saR⟩, nR0, nR1, nR2, nR3, nR4, gCR⟩
  obtain ⟨fX, fdX, FX, bX, gX⟩ := APexecuted
  have GI : FnOk l.prog w K mg base CX0 1 fRRinit _ ["self", "p", "registers", "inputs"] (spRInit K CR) := ok_rinit FRRinit T
  have GP : FnOk l.prog w K mg base CX0 2 fRRperform _ ["self", "instruction"] (spPerf K CR) := ok_perform FRRperform T M FX bX gX
  have hT : Has l.prog w K mg base 1 "_law_take" ["_law_urn_here", "_law_below"] spTake := has_take ATake
  have hO : Has l.prog w K mg base 2 "_law_of" ["_law_urn_here", "_law_items"] (spOf K) := has_of M AOf ATake
  have hI := ok_item M AItem hO (hT.up (by decide))
  have hS : ∀ n, Has l.prog w K mg base (2 * n) "step_count" ["program"] (spTI K (okB n) lens) := ok_steps M ALength AStep_count
  have hU : ∀ n, Has l.prog w K mg base (2 * n) "unrolled" ["program"] (spUnr K n) := ok_unr M AUnrolled ALength AStep_count
  have R : ErrsL l.prog K mg CJ CL fL C0 C1 C2 := ⟨TL, gEJ, gE0, gE1, gE2, BL, XL, kkV, kkO, gVE⟩
  have hRunE := ok_runE (d := 4) (k := 10) M ARun g_MAX_STEPS TL T ⟨mkR, aRRinit, iRRinit, kcR⟩ (by decide) GI bRRinit GP bRRperform ⟨aRRperform, iRRperform, kRRperform⟩ (hS 5) (hU 5)
  have hRun := run_calm hRunE
  have hX := ok_exec (P := l.prog) (w := w) (base := base) M AExecuted 5
  have hLr := ok_lrun (d := 5) (k := 11) M ALrun (hX.up (by decide)) ((ok_after (k := 0) M AAfter).up (by decide))
  have hR := ok_right (k := 12) M ARight ARun (hT.up (by decide)) ((ok_prime APrime hO).up (by decide)) ((ok_words AWords).up (by decide)) ((ok_body M ABody (hO.up (k := 3) (by decide)) (hT.up (by decide)) hI 5).up (by decide)) (hX.up (by decide)) ((ok_tup M ATuple hO (hT.up (by decide))).up (by decide)) hLr (hRun.up (by decide))
  have hE := ok_edges (k := 12) M AEdges (hRun.up (by decide)) hLr (hT.up (by decide)) (ok_size M ASize R hRunE)
  have hLaw := ok_law (P := l.prog) (w := w) (base := base) (k := 13) M ALaw ((has_urn M AUrn).up (by decide)) hR hE
  obtain ⟨f, fd, c⟩ := hLaw
  cases hfa.symm.trans c.g
  cases hfa.symm.trans (PySem.W.mg_of X G a19)
  obtain ⟨_, _, _, e⟩ := c.lk
  cases e.symm.trans l19
  exact c.ok
end K12
open PySem PySem.W PyProof.Rows
set_option maxRecDepth 100000 in
set_option maxHeartbeats 0 in
theorem PySem.Challenge.cw_leastjournal_k12_plain_runs_holds : PySem.Challenge.rw_leastjournal_k12_plain_runs.Holds := by
  w_on; o_law; k_head; (case hw => w_witness2)
  k_fill
  refine Lj.walk_G (l := PySem.Challenge.rw_leastjournal_k12_plain_runs) (n := 63) (k := 14) (x := "_law_script") (sp := K12.spLaw) rfl (by decide) rfl ⟨rfl, by decide, by decide⟩ (fun w h Y => PySem.W.kIn_of Y) ?F (fun _ _ a ns hl _ hS => ⟨a, ns, rfl, hS, hl, fun _ => rfl⟩)
  case F =>
    intro w mg fa h KX G hmg
    refine' K12.all_mk KX G hmg ?a0 ?l0 ?c0 ?k0 ?a1 ?l1 ?c1 ?k1 ?a2 ?l2 ?c2 ?k2 ?a3 ?l3 ?c3 ?k3 ?a4 ?l4 ?c4 ?k4 ?a5 ?l5 ?c5 ?k5 ?a6 ?l6 ?c6 ?k6 ?a7 ?l7 ?c7 ?k7 ?a8 ?l8 ?c8 ?k8 ?a9 ?l9 ?c9 ?k9 ?a10 ?l10 ?c10 ?k10 ?a11 ?l11 ?c11 ?k11 ?a12 ?l12 ?c12 ?k12 ?a13 ?l13 ?c13 ?k13 ?a14 ?l14 ?c14 ?k14 ?a15 ?l15 ?c15 ?k15 ?a16 ?l16 ?c16 ?k16 ?a17 ?l17 ?c17 ?k17 ?a18 ?l18 ?c18 ?k18 ?a19 ?l19 ?c19 ?k19 ?z0 ?z1 ?z2 ?z3 ?z4 ?z5 ?z6 ?z7 ?z8 ?z9 ?z10 ?z11 ?z12 ?z13 ?z14 ?z15 ?v0 ?aCR ?aRRinit ?iRRinit ?lRRinit ?cRRinit ?kRRinit ?aRRperform ?iRRperform ?lRRperform ?cRRperform ?kRRperform ?pgR ?hdR ?poR ?saR ?mkR ?kcR ?nR0 ?nR1 ?nR2 ?nR3 ?nR4 ?aEJ ?eEJ ?hEJ ?yEJ ?zsu ?zve ?zop ?ztp ?aE0 ?aE1 ?aE2 ?aEL ?xEL ?saEL ?gEL1 ?gEL2 ?nEL ?iEL ?tEL ?kEL ?eEL ?vEL ?yEL ?hEL ?rEL ?uEL ?lEL ?cEL ?dEL ?wEL ?oEL ?qEL ?jEL ?bEL1 ?bEL2 ?bEL3 ?bEL4 ?kkV ?kkO
    (case a0 => k_is); (case l0 => k_is); (case c0 => k_is); (case k0 => k_is); (case a1 => k_is); (case l1 => k_is); (case c1 => k_is); (case k1 => k_is); (case a2 => k_is); (case l2 => k_is); (case c2 => k_is); (case k2 => k_is); (case a3 => k_is); (case l3 => k_is); (case c3 => k_is); (case k3 => k_is); (case a4 => k_is); (case l4 => k_is); (case c4 => k_is); (case k4 => k_is); (case a5 => k_is); (case l5 => k_is); (case c5 => k_is); (case k5 => k_is); (case a6 => k_is); (case l6 => k_is); (case c6 => k_is); (case k6 => k_is); (case a7 => k_is); (case l7 => k_is); (case c7 => k_is); (case k7 => k_is); (case a8 => k_is); (case l8 => k_is); (case c8 => k_is); (case k8 => k_is); (case a9 => k_is); (case l9 => k_is); (case c9 => k_is); (case k9 => k_is); (case a10 => k_is); (case l10 => k_is); (case c10 => k_is); (case k10 => k_is); (case a11 => k_is); (case l11 => k_is); (case c11 => k_is); (case k11 => k_is); (case a12 => k_is); (case l12 => k_is); (case c12 => k_is); (case k12 => k_is); (case a13 => k_is); (case l13 => k_is); (case c13 => k_is); (case k13 => k_is); (case a14 => k_is); (case l14 => k_is); (case c14 => k_is); (case k14 => k_is); (case a15 => k_is); (case l15 => k_is); (case c15 => k_is); (case k15 => k_is); (case a16 => k_is); (case l16 => k_is); (case c16 => k_is); (case k16 => k_is); (case a17 => k_is); (case l17 => k_is); (case c17 => k_is); (case k17 => k_is); (case a18 => k_is); (case l18 => k_is); (case c18 => k_is); (case k18 => k_is); (case a19 => k_is); (case l19 => k_is); (case c19 => k_is); (case k19 => k_is); (case z0 => k_is); (case z1 => k_is); (case z2 => k_is); (case z3 => k_is); (case z4 => k_is); (case z5 => k_is); (case z6 => k_is); (case z7 => k_is); (case z8 => k_is); (case z9 => k_is); (case z10 => k_is); (case z11 => k_is); (case z12 => k_is); (case z13 => k_is); (case z14 => k_is); (case z15 => k_is); (case v0 => k_is)
    (case aCR => k_is); (case aRRinit => k_is); (case iRRinit => k_is); (case lRRinit => k_is); (case cRRinit => k_is); (case kRRinit => k_is); (case aRRperform => k_is); (case iRRperform => k_is); (case lRRperform => k_is); (case cRRperform => k_is); (case kRRperform => k_is); (case pgR => k_is); (case hdR => k_is); (case poR => k_is); (case saR => k_is); (case mkR => k_is); (case kcR => k_is); (case nR0 => k_is); (case nR1 => k_is); (case nR2 => k_is); (case nR3 => k_is); (case nR4 => k_is)
    (case aEJ => k_is); (case eEJ => k_is); (case hEJ => k_is); (case yEJ => k_is); (case zsu => k_is); (case zve => k_is); (case zop => k_is); (case ztp => decide +kernel); (case aE0 => k_is); (case aE1 => k_is); (case aE2 => k_is); (case aEL => k_is); (case xEL => k_is); (case saEL => k_is); (case gEL1 => k_is); (case gEL2 => k_is); (case nEL => k_is); (case iEL => k_is); (case tEL => k_is); (case kEL => k_is); (case eEL => k_is); (case vEL => k_is); (case yEL => k_is); (case hEL => k_is); (case rEL => k_is); (case uEL => ks_is); (case lEL => k_is); (case cEL => k_is); (case dEL => k_is); (case wEL => rfl); (case oEL => first | rfl | decide +kernel); (case qEL => k_is); (case jEL => k_is); (case bEL1 => k_is); (case bEL2 => k_is); (case bEL3 => k_is); (case bEL4 => k_is); (case kkV => kit_is); (case kkO => kit_is)
