import PyProof.Rows.All
import Wide.All
import OpenK.AllK
import Wide.FinOn
import HandS.ForMost
import HandS.Wide
import HandS.IsInst
import HandS.Flow
import HandS.Evl
import PyProof.StrBlock2
import HandS.Zip
import HandS.Walk
import HandS.SortKw
import HandS.More
import HandS.WideBits
import HandS.TupMul
import HandS.TupAny
import HandS.Conv
import HandS.TupLe
import HandS.Style
import PySem.Challenge.RW_leastjournal_k04_weights
set_option Elab.async false
set_option linter.all false
set_option maxRecDepth 100000
namespace Lj
open PySem PySem.Spec PyProof.Rows L2
section
variable {X : Cx}
theorem op_mulS : OpR X (binaryOp .Mult) (fun x y H Q => ∃ z n, x = .str z ∧ y = .int n ∧ MulOk z n ∧ Q (.str (Txt.mul z n)) H) := by
  intro pins s σ H x y v u Q I rx ry h
  obtain ⟨z, n, rfl, rfl, ok, q⟩ := h
  obtain ⟨t, rfl⟩ := rx
  obtain ⟨t', rfl⟩ := ry
  exact SB.mul ok fun t2 k => ⟨.str _, H, I.tok _, ⟨_, rfl⟩, q⟩
end
section
variable {X : Cx} {CX : CXT} {k : Nat} {f : Addr} {fd : FuncData} {ps ks : List Str} {sp : Sp} {E : XK} {x : Str} {p pos : Pos} {kws : List Keyword} {tk : TA}
  {g : List Value → List Value → List Value} {gV : List V → List V → List V}
/-- f(k = v, ..), no positional arguments -/
theorem pe_callK0 (F : FnOk X.prog X.w X.K X.mg X.base CX k f fd ps sp) (hr : Room k X.A) (hg : Gl X x) (hm : X.mg x = some (.ref f)) (hk : PySem.W.keepIn X.K (.ref f) = true) (hb : KBinds X.K fd ps ks g gV) (hx : Passes CX X E)
    (hkw : PK X kws tk) (hall : (backToKw pos (keywordEach kws X.env)).all (·.1.isSome) = true := by rfl) (hks : (backToKw pos (keywordEach kws X.env)).filterMap (·.1) = ks := by rfl)
    (hdb : (x == ("__debug__" : Str)) = false := by decide)
    (hpl : ((backTo pos (starEach [] X.env)).any (·.1) || (backToKw pos (keywordEach kws X.env)).any (·.1.isNone)) = false := by rfl) :
    PE X (.Call (.Name x p) [] kws pos) (fun σ H Q => tk σ H fun zs H1 => sp (gV [] zs) H1 Q E) := by
  refine ⟨fun pins s σ H Q I h => ?_⟩
  refine wpAny_Call_Name_kw (ld_glob I hg hm ?_ hdb)
  refine PySem.W.callWith_KW0 (h₀ := X.base) I.ok.mod.kin hk hall (thn (hkw.run pos pins s σ H _ I h) fun ws s2 ⟨zs, H2, I2, rz, q2⟩ => ⟨I2.kIn, ?_⟩) hpl
  rw [hks]
  exact run_fnk (us := []) (vs := []) F hr hb hx I2 .nil rz q2
end
/-! ### heaps -/
theorem same_new {H : Hp} {p : Addr} {o : HO} (h : H p = none) : Same H (upd H p o) := fun b x e => by
  rw [upd_ne (ne_of_none e h)]
  exact e
/-- all but p stands as before -/
def But (p : Addr) (H H' : Hp) : Prop := ∀ b o, b ≠ p → H b = some o → H' b = some o
theorem But.refl (p : Addr) (H : Hp) : But p H H := fun _ _ _ h => h
theorem But.trans {p : Addr} {H H1 H2 : Hp} (a : But p H H1) (b : But p H1 H2) : But p H H2 := fun c o n h => b c o n (a c o n h)
theorem But.same {p : Addr} {H H' : Hp} (s : Same H H') : But p H H' := fun b o _ h => s b o h
theorem But.new {p q : Addr} {H : Hp} {o : HO} (h : H q = none) : But p H (upd H q o) := But.same (same_new h)
theorem But.upd {p : Addr} {H : Hp} {o : HO} : But p H (upd H p o) := fun b x n e => by
  rw [upd_ne n]
  exact e
theorem But.rd {p a : Addr} {H H' : Hp} {u : HO} (b : But p H H') (n : a ≠ p) (h : Rd H a u) : Rd H' a u := by
  rcases h with h | ⟨o, h⟩
  · exact .inl (b _ _ n h)
  · exact .inr ⟨o, b _ _ n h⟩
theorem But.seq {K : PySem.W.Frag} {p a : Addr} {H H' : Hp} {xs : List V} (b : But p H H') (n : a ≠ p) (h : SqL K H a xs) : SqL K H' a xs := by
  rcases h with h | h
  · exact .inl (b.rd n h)
  · exact .inr h
theorem But.tup {K : PySem.W.Frag} {p a : Addr} {H H' : Hp} {xs : List V} (b : But p H H') (n : a ≠ p) (h : SqT K H a xs) : SqT K H' a xs := by
  rcases h with h | h
  · exact .inl (b.rd n h)
  · exact .inr h
/-! ### the urn: two numbers in a list -/
def wide : Nat := 2 ^ 1000
def Urn (H : Hp) (p : Addr) : Prop := ∃ u v : Int, H p = some (.lst [.int u, .int v]) ∧ 0 ≤ u ∧ u.natAbs < wide ∧ 0 ≤ v ∧ v < 2305843009213693951
theorem Urn.but {p q : Addr} {H H' : Hp} (b : But q H H') (n : p ≠ q) (h : Urn H p) : Urn H' p := by
  obtain ⟨u, v, e, r⟩ := h
  exact ⟨u, v, b _ _ n e, r⟩
theorem Urn.same {p : Addr} {H H' : Hp} (b : Same H H') (h : Urn H p) : Urn H' p := by
  obtain ⟨u, v, e, r⟩ := h
  exact ⟨u, v, b _ _ e, r⟩
theorem Urn.ne {p q : Addr} {H : Hp} (h : Urn H p) (e : H q = none) : q ≠ p := by
  obtain ⟨u, v, e', _⟩ := h
  exact (ne_of_none e' e).symm
theorem Urn.free {p q : Addr} {H H' : Hp} (h : Urn H' p) (b : But p H H') (e : H' q = none) : H q = none := by
  have n := h.ne e
  cases z : H q with
  | none => rfl
  | some o => rw [b _ _ n z] at e; cases e
def spUrn (K : PySem.W.Frag) : Sp := fun vs H Q _ => ∃ (a : Addr) (ns : List Int) (k : Int), vs = [.ref a, .int k] ∧ SqL K H a (ns.map V.int) ∧ 0 ≤ k ∧ k ≤ 1000 ∧
  ∀ H' p, Same H H' → H p = none → Urn H' p → Q (.ref p) H'
def spTake : Sp := fun vs H Q _ => ∃ (p : Addr) (n : Int), vs = [.ref p, .int n] ∧ Urn H p ∧ 0 < n ∧ n.natAbs < wide ∧
  ∀ (d : Int) H', 0 ≤ d → d < n → Urn H' p → But p H H' → Q (.int d) H'
def spOf (K : PySem.W.Frag) : Sp := fun vs H Q _ => ∃ (p q : Addr) (xs : List V), vs = [.ref p, .ref q] ∧ Urn H p ∧ q ≠ p ∧ SqL K H q xs ∧ xs ≠ [] ∧ xs.length ≤ 1000 ∧
  ∀ x H', x ∈ xs → Urn H' p → But p H H' → Q x H'
def urnText : Str := "1" ++ Txt.mul "0" 300
theorem urnText_int : PySem.intText? urnText = some (10 ^ 300) := by decide +kernel
theorem urnText_len : urnText.length ≤ 640 := by decide +kernel
theorem mul_ok0 : MulOk "0" 300 := ⟨by decide, fun _ _ => by decide, fun _ _ => by decide⟩
theorem small {n : Nat} (h : n ≤ 1000) : n ≤ sizeLine := Nat.le_of_lt (small1000 h)
theorem own_lt (c : Int) (b : Bool) : 0 ≤ (if c < 0 then -c else c) % 10 ^ 300 * (if b then 1 else 0) ∧ ((if c < 0 then -c else c) % 10 ^ 300 * (if b then 1 else 0)).natAbs < wide := by
  have h1 : 0 ≤ (if c < 0 then -c else c) % (10 ^ 300 : Int) := Int.emod_nonneg _ (by decide)
  have h2 : (if c < 0 then -c else c) % (10 ^ 300 : Int) < 10 ^ 300 := Int.emod_lt_of_pos _ (by decide)
  generalize (if c < 0 then -c else c) % (10 ^ 300 : Int) = z at h1 h2
  have h3 : (10 ^ 300 : Int) < (wide : Int) := by decide +kernel
  have h4 : 0 < wide := by decide +kernel
  cases b with
  | true =>
    rw [if_pos rfl, Int.mul_one]
    exact ⟨h1, by omega⟩
  | false =>
    rw [if_neg Bool.false_ne_true, Int.mul_zero]
    exact ⟨Int.le_refl 0, h4⟩
theorem ind_bd (b : Bool) : -(2 ^ 64) < (if b then 1 else 0 : Int) ∧ (if b then 1 else 0 : Int) < 2 ^ 64 := by
  cases b
  · exact ⟨by decide, by decide⟩
  · exact ⟨by decide, by decide⟩
def nx (v : Int) : Int := (v * 1181783497276652981 + 12345678910987) % 2305843009213693951
theorem nx0 (v : Int) : 0 ≤ nx v := Int.emod_nonneg _ (by decide)
theorem nx1 (v : Int) : nx v < 2305843009213693951 := Int.emod_lt_of_pos _ (by decide)
def ny (v : Int) : Int := (v * 3202034522624059733 + 1) % 2305843009213693951
theorem ny0 (v : Int) : 0 ≤ ny v := Int.emod_nonneg _ (by decide)
theorem ny1 (v : Int) : ny v < 2305843009213693951 := Int.emod_lt_of_pos _ (by decide)
theorem at_int {ns : List Int} {k : Int} (h0 : 0 ≤ k) (h : k < (ns.length : Int)) : ∃ v : Int, v ∈ ns ∧ atI (ns.map V.int) k = some (.int v) := by
  have hk : k.toNat < ns.length := by omega
  have ek : k = ((k.toNat : Nat) : Int) := by omega
  have q : atI (ns.map V.int) ((k.toNat : Nat) : Int) = some (.int ns[k.toNat]) := atI_nat (by rw [List.getElem?_map, List.getElem?_eq_getElem hk] <;> rfl)
  rw [← ek] at q
  exact ⟨ns[k.toNat], List.getElem_mem hk, q⟩
theorem at_any {xs : List V} {k : Int} (h0 : 0 ≤ k) (h : k < (xs.length : Int)) : ∃ v : V, v ∈ xs ∧ atI xs k = some v := by
  have hk : k.toNat < xs.length := by omega
  have ek : k = ((k.toNat : Nat) : Int) := by omega
  have q : atI xs ((k.toNat : Nat) : Int) = some xs[k.toNat] := atI_nat (List.getElem?_eq_getElem hk)
  rw [← ek] at q
  exact ⟨xs[k.toNat], List.getElem_mem hk, q⟩
theorem iteP {c A B : Prop} [Decidable c] (h : c) (a : A) : if decide c = true then A else B := by
  rw [decide_eq_true h]
  exact a
theorem iteN {c A B : Prop} [Decidable c] (h : ¬ c) (b : B) : if decide c = true then A else B := by
  rw [decide_eq_false h]
  exact b
/-! ### rules with the written part named: for the blocks of comprehensions -/
section
variable {X : Cx} {K : PySem.W.Frag}
theorem ix_tupK (h : X.K = K) : IxR X (rIxT K) := h ▸ ix_tup
theorem ix_listK (h : X.K = K) : IxR X (rIxL K) := h ▸ ix_list
def rLenS (K : PySem.W.Frag) : List V → Hp → VK → Prop := fun xs H Q => ∃ p ys, xs = [.ref p] ∧ (SqL K H p ys ∨ SqT K H p ys) ∧ Q (.int ys.length) H
theorem call_len_seqK (h : X.K = K) : CallR X (.builtin "len") (rLenS K) := h ▸ call_len_seq
end
end Lj
set_option Elab.async false
set_option linter.all false
set_option maxRecDepth 100000
namespace Lj
open PySem PySem.Spec PyProof.Rows L2
/-! ### promises of defs that are called where no repr is under way -/
/-- the def at f keeps sp wherever nothing is being shown -/
structure FnG (P : Program) (w : World) (K : PySem.W.Frag) (mg : Str → Option Value) (base : Heap) (k : Nat) (f : Addr) (fd : FuncData) (ps : List Str) (sp : Sp) : Prop where
  len : ∀ vs H Q E, sp vs H Q E → vs.length = ps.length
  run : ∀ (A : Around) (out : List Env) (s : Shared) (H : Hp) (as : Args) (us : List Value) (vs : List V) (Q : VK) (E : XK), A.guards = some [] → Room k A → Env0 P w K mg base A out s H →
    BindsTo s fd as (ps.zip us) → Vals vs us → sp vs H Q E → codeAny (model P w) A (.call (.ref f) as) (CR CX0 out P w H s Q E) s
section
variable {P : Program} {w : World} {K : PySem.W.Frag} {mg : Str → Option Value} {base : Heap} {j k : Nat} {f : Addr} {fd : FuncData} {ps : List Str} {sp sp' : Sp}
theorem FnG.of (F : FnOk P w K mg base CX0 k f fd ps sp) : FnG P w K mg base k f fd ps sp := ⟨F.len, fun A out s H as us vs Q E _ => F.run A out s H as us vs Q E⟩
theorem FnG.up (F : FnG P w K mg base j f fd ps sp) (h : j ≤ k) : FnG P w K mg base k f fd ps sp := ⟨F.len, fun A out s H as us vs Q E g r => F.run A out s H as us vs Q E g (r.mono h)⟩
theorem FnG.weak (F : FnG P w K mg base k f fd ps sp) (h : ∀ vs H Q E, sp' vs H Q E → sp vs H Q E) : FnG P w K mg base k f fd ps sp' :=
  ⟨fun vs H Q E q => F.len vs H Q E (h _ _ _ _ q), fun A out s H as us vs Q E g r e b v q => F.run A out s H as us vs Q E g r e b v (h _ _ _ _ q)⟩
/-- by the def's body, where nothing is being shown -/
theorem FnG.body {x qual : Str} {st : Stmt} {N : List Str} (F : Fun K x qual st f fd) (S : FnScope N ps (defScope st)) (len : ∀ vs H Q E, sp vs H Q E → vs.length = ps.length)
    (hb : ∀ (cdv : Value) (A : Around) (out : List Env) (s : Shared) (H : Hp) (vs : List V) (Q : VK) (E : XK), A.guards = some [] → Room k (A.deeper (envOfC qual (defScope st) s.heap.objs.size f cdv)) → sp vs H Q E →
      ∃ t, PSs (cxOf CX0 P w K mg base N qual (defScope st) f cdv A out s H E).nox (defBody st) t ∧ t { nx := fun _ H' => Q .non H', rt := Q } (start N vs) H) : FnG P w K mg base (k + 1) f fd ps sp := by
  obtain ⟨c0, c1, c2, c3, c4, c5, cd, c6, c7, rfl, look, code⟩ := F.ex
  refine ⟨len, fun A out s H as us vs Q E hg room env bind vals want => ?_⟩
  have ln := len _ _ _ _ want
  have old : ∀ b o, base.get? b = some o → s.heap.get? b = some o := fun b o e => (env.bs b o e).1
  have here : K.In s.heap := env.mod.kin.keeps old
  refine codeAny_call_function room.depth (here _ _ look) rfl S.co S.gen rfl (PySem.W.codeRec_of here code) (bind _ _ _ _ ?_)
  refine wpAny_newFunctionEnv_cells S.kind (fun ⟨n, v⟩ m => (S.par n (List.of_mem_zip m).1).elim .inl fun c => .inr ⟨c, PySem.W.cellsFrom_some _ _ _ (.inl c)⟩) fun en he s1 x => ?_
  subst he
  refine ⟨(env.mod.nolimit.keeps old).keeps x.toInCall.keep, codeAny_func ?_⟩
  obtain ⟨t, rule, holds⟩ := hb cd A out s H vs Q E hg (room.deeper _) want
  have start0 := inv_start (CX := CX0) (E := E) S room.hd env ln vals x
  refine wpAny_mono (rule.nox.run [] s1 (start N vs) H _ start0 holds) (fun r s' z => ?_) fun _ _ z => z
  match r, z with
  | .ret u, ⟨v, σ', H', J, rv, q⟩ => exact ⟨v, H', J.os, J.bare, J.base, J.hok, rv, q⟩
  | .next, ⟨σ', H', J, q⟩ => exact ⟨.non, H', J.os, J.bare, J.base, J.hok, rfl, q⟩
  | .brk, ⟨_, _, _, q⟩ => exact False.elim q
  | .cont, ⟨_, _, _, q⟩ => exact False.elim q
end
/-- where a def stands, under the name x, with its promise -/
structure Cal (P : Program) (w : World) (K : PySem.W.Frag) (mg : Str → Option Value) (base : Heap) (k : Nat) (x : Str) (ps : List Str) (f : Addr) (fd : FuncData) (sp : Sp) : Prop where
  ok : FnG P w K mg base k f fd ps sp
  kp : PySem.W.keepIn K (.ref f) = true
  b : Binds K fd ps []
  g : mg x = some (.ref f)
  lk : ∃ oc od osl, K.lookup f = some ⟨oc, od, .func fd, osl⟩
theorem fun_lk {K : PySem.W.Frag} {x qual : Str} {st : Stmt} {f : Addr} {fd : FuncData} (F : Fun K x qual st f fd) : ∃ oc od osl, K.lookup f = some ⟨oc, od, .func fd, osl⟩ := by
  obtain ⟨c0, c1, c2, c3, c4, c5, cd, c6, c7, e, look, code⟩ := F.ex
  exact ⟨_, _, _, look⟩
def Has (P : Program) (w : World) (K : PySem.W.Frag) (mg : Str → Option Value) (base : Heap) (k : Nat) (x : Str) (ps : List Str) (sp : Sp) : Prop := ∃ f fd, Cal P w K mg base k x ps f fd sp
/-- the def of the text st stands under the name x -/
def At (K : PySem.W.Frag) (mg : Str → Option Value) (x : Str) (st : Stmt) (ps : List Str) : Prop := ∃ f fd, Fun K x x st f fd ∧ Binds K fd ps [] ∧ mg x = some (.ref f)
section
variable {P : Program} {w : World} {K : PySem.W.Frag} {mg : Str → Option Value} {base : Heap} {j k : Nat} {x : Str} {ps : List Str} {sp sp' : Sp}
theorem Has.up (h : Has P w K mg base j x ps sp) (l : j ≤ k) : Has P w K mg base k x ps sp := by
  obtain ⟨f, fd, c⟩ := h
  exact ⟨f, fd, c.ok.up l, c.kp, c.b, c.g, c.lk⟩
theorem Has.weak (h : Has P w K mg base k x ps sp) (i : ∀ vs H Q E, sp' vs H Q E → sp vs H Q E) : Has P w K mg base k x ps sp' := by
  obtain ⟨f, fd, c⟩ := h
  exact ⟨f, fd, c.ok.weak i, c.kp, c.b, c.g, c.lk⟩
theorem Has.by {st : Stmt} {N : List Str} (F : At K mg x st ps) (S : FnScope N ps (defScope st)) (len : ∀ vs H Q E, sp vs H Q E → vs.length = ps.length)
    (hb : ∀ (f : Addr) (cdv : Value) (A : Around) (out : List Env) (s : Shared) (H : Hp) (vs : List V) (Q : VK) (E : XK), A.guards = some [] → Room k (A.deeper (envOfC x (defScope st) s.heap.objs.size f cdv)) → sp vs H Q E →
      ∃ t, PSs (cxOf CX0 P w K mg base N x (defScope st) f cdv A out s H E).nox (defBody st) t ∧ t { nx := fun _ H' => Q .non H', rt := Q } (start N vs) H) : Has P w K mg base (k + 1) x ps sp := by
  obtain ⟨f, fd, F, b, g⟩ := F
  exact ⟨f, fd, .body F S len (hb f), F.kp, b, g, fun_lk F⟩
end
/-- the def behind a name is the text's -/
theorem Cal.text {P : Program} {w : World} {K : PySem.W.Frag} {mg : Str → Option Value} {base : Heap} {k : Nat} {x : Str} {ps qs : List Str} {f : Addr} {fd : FuncData} {sp : Sp} {st : Stmt} (c : Cal P w K mg base k x ps f fd sp) (F : At K mg x st qs) : Fun K x x st f fd := by
  obtain ⟨f2, fd2, F2, _, g2⟩ := F
  have e := c.g.symm.trans g2
  cases e
  obtain ⟨_, _, _, l1⟩ := c.lk
  obtain ⟨_, _, _, l2⟩ := fun_lk F2
  have e := l1.symm.trans l2
  cases e
  exact F2
section
variable {X : Cx} {k : Nat} {x : Str} {ps ks : List Str} {f : Addr} {fd : FuncData} {sp : Sp} {p pos : Pos} {e : Expr} {es : List Expr} {kws : List Keyword} {t tk : TA}
  {g : List Value → List Value → List Value} {gV : List V → List V → List V}
def tCal (sp : Sp) (t : TA) : TE := fun σ H Q => t σ H fun vs H1 => sp vs H1 Q E0
def tCal0 (sp : Sp) : TE := fun _ H Q => sp [] H Q E0
def tCalK (sp : Sp) (gV : List V → List V → List V) (t tk : TA) : TE := fun σ H Q => t σ H fun vs H1 => tk σ H1 fun zs H2 => sp (gV vs zs) H2 Q E0
theorem cal_run {pins : List (Addr × Obj)} {σ : L2.St} {H : Hp} {s : Shared} {Q : VK} {us ws zs : List Value} {vs : List V} {kw : List (Str × Value)} {s2 : Shared} (c : FnG X.prog X.w X.K X.mg X.base k f fd ps sp) (hg : X.A.guards = some []) (hr : Room k X.A)
    (I : Inv X pins σ H s) (bind : BindsTo s fd ⟨us, kw⟩ (ps.zip zs)) (vals : Vals vs zs) (h : sp vs H Q E0) : wpAny (model X.prog X.w) X.A (call (.ref f) us kw) (EP X pins σ Q) X.xe s := by
  refine wpAny_call (codeAny_mono (c.run X.A X.stack s H ⟨us, kw⟩ zs vs Q E0 hg hr I.env0 bind vals h) fun r s' z => ?_)
  match r, z with
  | .error _, z => exact z.elim
  | .ok (.ret _), z => exact I.after z
  | .ok .next, z => exact z.elim
  | .ok .brk, z => exact z.elim
  | .ok .cont, z => exact z.elim
/-- f(e, ..) -/
theorem pe_cal (c : Cal X.prog X.w X.K X.mg X.base k x ps f fd sp) (hg : X.A.guards = some []) (hr : Room k X.A) (gl : Gl X x) (ha : PA X (e :: es) t) (hdb : (x == ("__debug__" : Str)) = false := by decide)
    (he : starEach (e :: es) X.env = (false, eval e X.env) :: starEach es X.env := by rfl) (hpl : (backTo pos (starEach es X.env)).any (·.1) = false := by rfl) :
    PE X (.Call (.Name x p) (e :: es) [] pos) (tCal sp t) := by
  refine ⟨fun pins s σ H Q I h => wpAny_Call_Name_kw (ld_glob I gl c.g ?_ hdb)⟩
  refine PySem.W.callWith_K (h₀ := X.base) I.ok.mod.kin c.kp (thn (ha.run pos pins s σ H _ I h) fun us s1 ⟨vs, H1, I1, r, q⟩ => ⟨I1.kIn, ?_⟩) he hpl
  have ln : (us ++ []).length = ps.length := by
    rw [List.append_nil, ← r.length]
    exact c.ok.len _ _ _ _ q
  have bd := c.b s1 us I1.kIn ln
  rw [List.append_nil] at bd
  exact cal_run (ws := []) (s2 := s1) c.ok hg hr I1 bd r q
/-- f() -/
theorem pe_cal0 (c : Cal X.prog X.w X.K X.mg X.base k x ps f fd sp) (hg : X.A.guards = some []) (hr : Room k X.A) (gl : Gl X x) (hdb : (x == ("__debug__" : Str)) = false := by decide) :
    PE X (.Call (.Name x p) [] [] pos) (tCal0 sp) := by
  refine ⟨fun pins s σ H Q I h => wpAny_Call_Name_kw (ld_glob I gl c.g ?_ hdb)⟩
  have ln := c.ok.len _ _ _ _ h
  exact PySem.W.callWith_K0 I.kIn c.kp (cal_run (ws := []) (zs := []) (s2 := s) c.ok hg hr I (c.b s [] I.kIn ln) .nil h)
/-- f(e, .., n = v, ..) and f(n = v, ..) -/
theorem pe_calK (c : Cal X.prog X.w X.K X.mg X.base k x ps f fd sp) (hb : KBinds X.K fd ps ks g gV) (hg : X.A.guards = some []) (hr : Room k X.A) (gl : Gl X x) (ha : PA X (e :: es) t) (hkw : PK X kws tk)
    (hall : (backToKw pos (keywordEach kws X.env)).all (·.1.isSome) = true := by rfl) (hks : (backToKw pos (keywordEach kws X.env)).filterMap (·.1) = ks := by rfl) (hdb : (x == ("__debug__" : Str)) = false := by decide)
    (he : starEach (e :: es) X.env = (false, eval e X.env) :: starEach es X.env := by rfl)
    (hpl : ((backTo pos (starEach (e :: es) X.env)).any (·.1) || (backToKw pos (keywordEach kws X.env)).any (·.1.isNone)) = false := by rfl) :
    PE X (.Call (.Name x p) (e :: es) kws pos) (tCalK sp gV t tk) := by
  refine ⟨fun pins s σ H Q I h => wpAny_Call_Name_kw (ld_glob I gl c.g ?_ hdb)⟩
  refine PySem.W.callWith_KW (h₀ := X.base) I.ok.mod.kin c.kp hall (thn (ha.run pos pins s σ H _ I h) fun us s1 ⟨vs, H1, I1, r, q⟩ => ?_) hpl he
  refine thn (hkw.run pos pins s1 σ H1 _ I1 q) fun ws s2 ⟨zs, H2, I2, rz, q2⟩ => ⟨I2.kIn, ?_⟩
  rw [hks]
  have r2 := hb.rel r rz
  exact cal_run (ws := []) (s2 := s2) c.ok hg hr I2 (hb.to s2 us ws I2.kIn (by rw [← r2.length]; exact c.ok.len _ _ _ _ q2)) r2 q2
theorem pe_calK0 (c : Cal X.prog X.w X.K X.mg X.base k x ps f fd sp) (hb : KBinds X.K fd ps ks g gV) (hg : X.A.guards = some []) (hr : Room k X.A) (gl : Gl X x) (hkw : PK X kws tk)
    (hall : (backToKw pos (keywordEach kws X.env)).all (·.1.isSome) = true := by rfl) (hks : (backToKw pos (keywordEach kws X.env)).filterMap (·.1) = ks := by rfl) (hdb : (x == ("__debug__" : Str)) = false := by decide)
    (hpl : ((backTo pos (starEach [] X.env)).any (·.1) || (backToKw pos (keywordEach kws X.env)).any (·.1.isNone)) = false := by rfl) :
    PE X (.Call (.Name x p) [] kws pos) (tCalK sp gV tNil tk) := by
  refine ⟨fun pins s σ H Q I h => wpAny_Call_Name_kw (ld_glob I gl c.g ?_ hdb)⟩
  refine PySem.W.callWith_KW0 (h₀ := X.base) I.ok.mod.kin c.kp hall (thn (hkw.run pos pins s σ H _ I h) fun ws s2 ⟨zs, H2, I2, rz, q2⟩ => ⟨I2.kIn, ?_⟩) hpl
  rw [hks]
  have r2 := hb.rel (vs := []) (us := []) .nil rz
  exact cal_run (ws := []) (s2 := s2) c.ok hg hr I2 (hb.to s2 [] ws I2.kIn (by rw [← r2.length]; exact c.ok.len _ _ _ _ q2)) r2 q2
end
/-! ### repr of data -/
theorem repr_flat {P : Program} {w : World} {A : Around} {E : Value → Shared → Prop} {s : Shared} {u : Value} {d : PyData} {as : List Addr} {Q : Value → Shared → Prop} (r : Reads s.heap u d as) (sh : d.showable = true) (nd : d.hasDict = false) (hg : A.guards = some []) (hu : A.units + (d.depth + 1) < cLine) (sz : d.shown.length ≤ sizeLine)
    (hQ : ∀ h' t tk, (∀ b o, s.heap.get? b = some o → h'.get? b = some o) → Q (.str d.shown t) { s with heap := h', toks := tk }) : wpAny (model P w) A (call (.builtin "repr") [u]) Q E s := by
  have no : ∀ b o, s.heap.get? b = some o → s.heap.get? b = some o := fun _ _ e => e
  cases r with
  | none => exact _root_.PySem.P.repr_of_none (hQ s.heap s.toks (s.toks + 1) no)
  | bool b =>
    refine _root_.PySem.P.repr_of_bool ?_
    cases b
    · exact hQ s.heap s.toks (s.toks + 1) no
    · exact hQ s.heap s.toks (s.toks + 1) no
  | int i t => exact _root_.PySem.P.repr_of_int (of_decide_eq_true sh) (hQ s.heap s.toks (s.toks + 1) no)
  | str x t => exact _root_.PySem.P.repr_of_str (hQ s.heap s.toks (s.toks + 1) no) sz
  | list a b c d => exact PySem.repr_of_reads' (.list a b c d) sh (fun z => by rw [nd] at z; cases z) hg hu no (fun h' t tk z => hQ h' t tk z) sz
  | tuple a b c d => exact PySem.repr_of_reads' (.tuple a b c d) sh (fun z => by rw [nd] at z; cases z) hg hu no (fun h' t tk z => hQ h' t tk z) sz
  | dict a b c d e => cases nd
section
variable {X : Cx} {k : Nat}
/-- repr(x), x data without dicts -/
theorem call_reprD (hg : X.A.guards = some []) (hr : Room k X.A) : CallR X (.builtin "repr") (fun xs H Q => ∃ x d, xs = [x] ∧ Dp X.K H x d ∧ d.showable = true ∧ d.hasDict = false ∧ d.depth ≤ 64 ∧ d.shown.length ≤ sizeLine ∧ Q (.str d.shown) H) := by
  intro pins s σ H xs us Q I r h
  obtain ⟨x, d, rfl, dp, sh, nd, de, sz, q⟩ := h
  obtain ⟨u, rfl, ru⟩ := r.one
  obtain ⟨as, rd⟩ := Dp.reads I d x u dp ru
  have un := hr.un
  exact repr_flat rd sh nd hg (by omega) sz fun h' t tk keep => ⟨.str _, H, I.kept keep, ⟨_, rfl⟩, q⟩
end
def rRepr (K : PySem.W.Frag) : List V → Hp → VK → Prop := fun xs H Q => ∃ x d, xs = [x] ∧ Dp K H x d ∧ d.showable = true ∧ d.hasDict = false ∧ d.depth ≤ 64 ∧ d.shown.length ≤ sizeLine ∧ Q (.str d.shown) H
theorem call_reprDK {X : Cx} {K : PySem.W.Frag} {k : Nat} (h : X.K = K) (hg : X.A.guards = some []) (hr : Room k X.A) : CallR X (.builtin "repr") (rRepr K) := h ▸ call_reprD hg hr
/-! ### the end: the law's promise where the claim's caller calls it -/
theorem end_call {P : Program} {w : World} {K : PySem.W.Frag} {mg mb : Str → Option Value} {k : Nat} {fa a : Addr} {fd : FuncData} {x : Str} {sp : Sp} {s : Shared} {vs : List Value} {ns : List Int}
    (kin : K.In s.heap) (glob : s.heap.Ns mainGlobals mg) (blt : s.heap.Ns builtinsNs mb) (same : ∀ x : Str, x ≠ "__name__" → mb x = bootBuiltins x) (lim : s.heap.NoLimit) (gens : s.gens = #[])
    (obj : s.heap.get? a = some { cls := .type "list", data := .seq vs.toArray }) (numb : IntsAre vs ns) (short : ns.length ≤ sizeLine) (room : Room k callerA)
    (F : ∀ base : Heap, K.In base → base.Ns mainGlobals mg → FnG P w K mg base k fa fd [x] sp) (bind : ∀ (s : Shared) (u : Value), BindsTo s fd ⟨[u], []⟩ [(x, u)])
    (want : ∀ H : Hp, Only H → SqL K H a (ns.map V.int) → sp [.ref a] H (fun v _ => v = .bl true) fun _ _ _ => False) :
    codeAny (model P w) callerA (.call (.ref fa) ⟨[.ref a], []⟩) (fun r s' => r = .ok (.ret (.bool true)) ∧ OldK s.heap s'.heap ∧ s'.os = s.os ∧ AllBare s'.gens) s := by
  have vals := vals_ints numb
  -- one step: whatever part H of the script's object is tracked
  have go : ∀ H : Hp, Only H → SqL K H a (ns.map V.int) → HOk P w H s.heap → (∀ b, H b ≠ none → b = a ∧ K.lookup a = none) →
      codeAny (model P w) callerA (.call (.ref fa) ⟨[.ref a], []⟩) (fun r s' => r = .ok (.ret (.bool true)) ∧ OldK s.heap s'.heap ∧ s'.os = s.os ∧ AllBare s'.gens) s := by
    intro H only sq hok at1
    have untracked : ∀ {b : Addr} {o : Obj} {es : Array DictEntry} {n : Nat}, s.heap.get? b = some o → o.data = .dict es n → H b = none := fun {b o es n} e d => by
      by_cases z : H b = none
      · exact z
      · have e2 := (at1 b z).1
        subst e2
        rw [obj] at e
        cases e
        cases d
    have names : ∀ {b : Addr} {m : Str → Option Value}, s.heap.Ns b m → (hidT s.heap H).Ns b m := fun {b m} ⟨o, es, n, e, d, r⟩ => ⟨o, es, n, hidT_get e (untracked e d), d, r⟩
    have kin2 : K.In (hidT s.heap H) := fun b o e => by
      refine hidT_get (kin b o e) ?_
      by_cases z : H b = none
      · exact z
      · obtain ⟨z1, z2⟩ := at1 b z
        rw [z1, z2] at e
        cases e
    obtain ⟨mc, l1, l2⟩ := lim
    have env : Env0 P w K mg (hidT s.heap H) callerA [] s H :=
      ⟨rfl, ⟨kin2, names glob, ⟨mb, names blt, same⟩, ⟨mc, names l1, l2⟩⟩, fun b o e => of_hidT e, Nat.le_of_eq (hidT_size _ _), trivial, fun b m => absurd (show b ∈ ([] : List Addr) from m) List.not_mem_nil, hok, AllBare.of_eq gens⟩
    refine codeAny_mono ((F _ kin2 (names glob)).run callerA [] s H ⟨[.ref a], []⟩ [.ref a] [.ref a] _ _ rfl room env (bind s (.ref a)) (.cons rfl .nil) (want H only sq)) fun r s' z => ?_
    match r, z with
    | .error _, z => exact z.elim
    | .ok .next, z => exact z.elim
    | .ok .brk, z => exact z.elim
    | .ok .cont, z => exact z.elim
    | .ok (.ret u), ⟨v, H', os, bare, un, hok2, rv, q⟩ =>
      have q : v = .bl true := q
      subst q
      obtain rfl : u = Value.bool true := rv
      refine ⟨rfl, OldK.of_keep fun b o e => ?_, os, bare⟩
      by_cases z : H b = none
      · exact un.keep b o e z (fun m => absurd (show b ∈ ([] : List Addr) from m) List.not_mem_nil) List.not_mem_nil
      · rcases only b with y | ⟨ob, xs, y⟩
        · exact absurd y z
        · have e1 := (hok b _ y).1
          have e2 := (hok2 b _ (un.frzs b ob _ y)).1
          rw [e] at e1
          cases e1
          exact e2
  by_cases hk : K.lookup a = none
  · refine go (fun b => if b = a then some (.frz { cls := .type "list", data := .seq vs.toArray } (.lst (ns.map V.int))) else none) (fun b => ?_) (.inl (.inr ⟨_, if_pos rfl⟩)) (fun b u e => ?_) (fun b e => ?_)
    · by_cases y : b = a
      · exact .inr ⟨_, _, if_pos y⟩
      · exact .inl (if_neg y)
    · by_cases y : b = a
      · cases (if_pos y).symm.trans e
        subst y
        exact ⟨obj, by rw [List.length_map]; exact short, vs, _, vals, obj⟩
      · cases (if_neg y).symm.trans e
    · by_cases y : b = a
      · exact ⟨y, hk⟩
      · exact absurd (if_neg y) e
  · obtain ⟨o, ho⟩ := Option.ne_none_iff_exists'.mp hk
    have e := kin a o ho
    rw [obj] at e
    cases e
    refine go (fun _ => none) (fun _ => .inl rfl) (.inr ⟨_, vs.toArray, _, ho, rfl, rfl, rfl, ?_, vals⟩) (fun b u e => by cases e) (fun b e => absurd rfl e)
    rw [List.size_toArray, numb.length]
    exact short
theorem walk_G {l : PySem.W.OpenLaw} {n k : Nat} {q : Program} {loose : List Str} {XP : (Str → Option Value) → Heap → Prop} {YP : World → Heap → Prop} {d : DefRec} {K : Params → PySem.W.Frag} {sp : PySem.W.Frag → Sp} {x : Str}
    (hn : l.most = some n) (hn2 : n ≤ sizeLine) (hdf : d.params.defaults = []) (hr : Room k callerA) (hY : ∀ (w : World) (h : Heap), YP w h → (K w.params).In h)
    (F : ∀ (w : World) (mg : Str → Option Value) (fa : Addr) (h : Heap), (K w.params).In h → h.Ns mainGlobals mg → mg d.name = some (.ref fa) →
      ∃ fd : FuncData, (∀ (s : Shared) (u : Value), BindsTo s fd ⟨[u], []⟩ [(x, u)]) ∧ ∀ base : Heap, (K w.params).In base → base.Ns mainGlobals mg → FnG l.prog w (K w.params) mg base k fa fd [x] (sp (K w.params)))
    (want : ∀ (K : PySem.W.Frag) (H : Hp) (a : Addr) (ns : List Int), ns.length ≤ n → Only H → SqL K H a (ns.map V.int) → sp K [.ref a] H (fun v _ => v = .bl true) fun _ _ _ => False) :
    PySem.W.WalkO q loose XP YP l.row.toRowW d [] (fun f vs => PySem.call f vs) := by
  refine Att.attach_call hn hdf fun w s0 s mg mb fa o pm cd doc a vs ns G Y _ _ _ hmg obj numb short gens => ?_
  have kin := hY w _ Y
  obtain ⟨fd, bind, ok⟩ := F w mg fa _ kin G.T.g hmg
  exact end_call kin G.T.g G.T.b G.T.builtins G.T.nolimit gens obj numb (Nat.le_trans short hn2) hr ok bind fun H o sq => want _ H a ns short o sq
end Lj
set_option Elab.async false
set_option linter.all false
set_option maxRecDepth 100000
namespace Lj
open PySem PySem.Spec PyProof.Rows L2
/-- the built-ins are not hidden by names of the module -/
structure Bl (mg : Str → Option Value) : Prop where
  len_ : mg "len" = none
  abs_ : mg "abs" = none
  int_ : mg "int" = none
  range_ : mg "range" = none
  max_ : mg "max" = none
  min_ : mg "min" = none
  all_ : mg "all" = none
  sum_ : mg "sum" = none
  list_ : mg "list" = none
  tuple_ : mg "tuple" = none
  isinstance_ : mg "isinstance" = none
  bool_ : mg "bool" = none
  repr_ : mg "repr" = none
  enumerate_ : mg "enumerate" = none
  zip_ : mg "zip" = none
  divmod_ : mg "divmod" = none
theorem Has.none {P : Program} {w : World} {K : PySem.W.Frag} {mg : Str → Option Value} {base : Heap} {k : Nat} {x : Str} {ps : List Str} {sp : Sp} {st : Stmt} (F : At K mg x st ps) (no : ∀ vs H Q E, ¬ sp vs H Q E) : Has P w K mg base k x ps sp := by
  obtain ⟨f, fd, F, b, g⟩ := F
  exact ⟨f, fd, ⟨fun vs H Q E h => absurd h (no vs H Q E), fun A out s H as us vs Q E _ _ _ _ _ h => absurd h (no vs H Q E)⟩, F.kp, b, g, fun_lk F⟩
/-! ### trees: instructions -/
inductive Tr where
  | op (w : Str) (as : List Int)
  | loop (k : Int) (b : List Tr)
mutual
def Tr.len : Tr → Int
  | .op _ _ => 1
  | .loop k b => k * lens b
def lens : List Tr → Int
  | [] => 0
  | t :: r => t.len + lens r
end
mutual
def Tr.inn : Tr → Int
  | .op _ _ => 0
  | .loop _ b => (b.length : Int) + inns b
def inns : List Tr → Int
  | [] => 0
  | t :: r => t.inn + inns r
end
def szs (b : List Tr) : Int := (b.length : Int) + inns b
mutual
def Tr.dep : Tr → Int
  | .op _ _ => 0
  | .loop _ b => 1 + deps b
def deps : List Tr → Int
  | [] => 0
  | t :: r => if t.dep > deps r then t.dep else deps r
end
mutual
def Tr.cnt (w : Str) : Tr → Int
  | .op u _ => if u = w then 1 else 0
  | .loop k b => k * cnts w b
def cnts (w : Str) : List Tr → Int
  | [] => 0
  | t :: r => t.cnt w + cnts w r
end
mutual
/-- what is executed, one after another -/
def Tr.ex : Tr → List Tr
  | .op w as => [.op w as]
  | .loop k b => (List.replicate k.toNat (exs b)).flatten
def exs : List Tr → List Tr
  | [] => []
  | t :: r => t.ex ++ exs r
end
mutual
/-- loops at most n deep, the words of the others not loop -/
def Tr.wf : Tr → Nat → Prop
  | .op w _, _ => w ≠ "loop"
  | .loop _ _, 0 => False
  | .loop k b, n + 1 => 0 ≤ k ∧ k ≤ 10 ^ 18 ∧ b.length ≤ 1000 ∧ wfs b n
def wfs : List Tr → Nat → Prop
  | [], _ => True
  | t :: r, n => t.wf n ∧ wfs r n
end
/-- a body for functions that may go n - 1 loops down -/
def okB : Nat → List Tr → Prop
  | 0, _ => False
  | n + 1, b => wfs b n ∧ b.length ≤ 1000
theorem lens_map : ∀ b : List Tr, lens b = (b.map Tr.len).sum
  | [] => rfl
  | t :: r => by rw [lens, lens_map r, List.map_cons, List.sum_cons]
theorem inns_map : ∀ b : List Tr, inns b = (b.map Tr.inn).sum
  | [] => rfl
  | t :: r => by rw [inns, inns_map r, List.map_cons, List.sum_cons]
theorem cnts_map (w : Str) : ∀ b : List Tr, cnts w b = (b.map (Tr.cnt w)).sum
  | [] => rfl
  | t :: r => by rw [cnts, cnts_map w r, List.map_cons, List.sum_cons]
theorem exs_map : ∀ b : List Tr, exs b = (b.map Tr.ex).flatten
  | [] => rfl
  | t :: r => by rw [exs, exs_map r, List.map_cons, List.flatten_cons]
theorem wfs_get : ∀ {b : List Tr} {n i : Nat} {t : Tr}, wfs b n → b[i]? = some t → t.wf n
  | [], _, _, _, _, e => by simp at e
  | t :: r, n, 0, u, h, e => by
    cases e
    rw [wfs] at h
    exact h.1
  | t :: r, n, i + 1, u, h, e => by
    rw [wfs] at h
    exact wfs_get (i := i) h.2 e
theorem wfs_all : ∀ {b : List Tr} {n : Nat}, (∀ t ∈ b, t.wf n) → wfs b n
  | [], _, _ => by rw [wfs]; trivial
  | t :: r, n, h => by
    rw [wfs]
    exact ⟨h t List.mem_cons_self, wfs_all fun u m => h u (List.mem_cons_of_mem _ m)⟩
theorem okB_loop {b b' : List Tr} {n i : Nat} {k : Int} (h : okB (n + 1) b) (e : b[i]? = some (.loop k b')) : 0 ≤ k ∧ k ≤ 10 ^ 18 ∧ okB n b' := by
  have z := wfs_get h.1 e
  cases n with
  | zero => rw [Tr.wf] at z; exact z.elim
  | succ m =>
    rw [Tr.wf] at z
    exact ⟨z.1, z.2.1, z.2.2.2, z.2.2.1⟩
theorem okB_op {b : List Tr} {n i : Nat} {w : Str} {as : List Int} (h : okB (n + 1) b) (e : b[i]? = some (.op w as)) : w ≠ "loop" := by
  have z := wfs_get h.1 e
  rw [Tr.wf] at z
  exact z
theorem at0 {x : V} {xs : List V} : atI (x :: xs) 0 = some x := atI_nat (j := 0) rfl
theorem sum_next {f : Tr → Int} {b : List Tr} {i : Nat} {t : Tr} (e : b[i]? = some t) : ((b.take (i + 1)).map f).sum = ((b.take i).map f).sum + f t := by
  rw [List.take_add_one, e, List.map_append, List.sum_append]
  show _ + (f t + 0) = _
  rw [Int.add_zero]
theorem map_next {α : Type} {f : Tr → α} {b : List Tr} {i : Nat} {t : Tr} (e : b[i]? = some t) : (b.take (i + 1)).map f = (b.take i).map f ++ [f t] := by
  rw [List.take_add_one, e, List.map_append]
  rfl
/-! ### trees in the heap -/
def Kt (H H' : Hp) : Prop := ∀ a xs, Rd H a (.tup xs) → Rd H' a (.tup xs)
theorem Kt.refl (H : Hp) : Kt H H := fun _ _ h => h
theorem Kt.trans {H H1 H2 : Hp} (a : Kt H H1) (b : Kt H1 H2) : Kt H H2 := fun c o h => b c o (a c o h)
theorem Kt.same {H H' : Hp} (s : Same H H') : Kt H H' := fun a xs h => by
  rcases h with h | ⟨o, h⟩
  · exact .inl (s _ _ h)
  · exact .inr ⟨o, s _ _ h⟩
theorem Kt.but {p : Addr} {H H' : Hp} {xs : List V} (b : But p H H') (e : H p = some (.lst xs)) : Kt H H' := fun a ys h => by
  refine b.rd (fun z => ?_) h
  subst z
  rcases h with h | ⟨o, h⟩
  · rw [e] at h; cases h
  · rw [e] at h; cases h
theorem Urn.kt {p : Addr} {H H' : Hp} (u : Urn H p) (b : But p H H') : Kt H H' := by
  obtain ⟨_, _, e, _⟩ := u
  exact Kt.but b e
theorem Kt.sq {K : PySem.W.Frag} {H H' : Hp} {a : Addr} {xs : List V} (k : Kt H H') (h : SqT K H a xs) : SqT K H' a xs := by
  rcases h with h | h
  · exact .inl (k _ _ h)
  · exact .inr h
mutual
def TrAt (K : PySem.W.Frag) (H : Hp) : Tr → V → Prop
  | .op w as, v => ∃ a, v = .ref a ∧ SqT K H a (.str w :: as.map V.int)
  | .loop k b, v => ∃ a c vs, v = .ref a ∧ SqT K H a [.str "loop", .int k, .ref c] ∧ SqT K H c vs ∧ TrsAt K H b vs
def TrsAt (K : PySem.W.Frag) (H : Hp) : List Tr → List V → Prop
  | [], vs => vs = []
  | t :: r, vs => ∃ v us, vs = v :: us ∧ TrAt K H t v ∧ TrsAt K H r us
end
def BodyAt (K : PySem.W.Frag) (H : Hp) (b : List Tr) (v : V) : Prop := ∃ c vs, v = .ref c ∧ SqT K H c vs ∧ TrsAt K H b vs
mutual
theorem TrAt.kt {K : PySem.W.Frag} {H H' : Hp} (k : Kt H H') : ∀ (t : Tr) (v : V), TrAt K H t v → TrAt K H' t v
  | .op w as, v, h => by
    rw [TrAt] at h ⊢
    obtain ⟨a, e, s⟩ := h
    exact ⟨a, e, k.sq s⟩
  | .loop n b, v, h => by
    rw [TrAt] at h ⊢
    obtain ⟨a, c, vs, e, s, s2, r⟩ := h
    exact ⟨a, c, vs, e, k.sq s, k.sq s2, TrsAt.kt k b vs r⟩
theorem TrsAt.kt {K : PySem.W.Frag} {H H' : Hp} (k : Kt H H') : ∀ (b : List Tr) (vs : List V), TrsAt K H b vs → TrsAt K H' b vs
  | [], vs, h => by
    rw [TrsAt] at h ⊢
    exact h
  | t :: r, vs, h => by
    rw [TrsAt] at h ⊢
    obtain ⟨v, us, e, a, b⟩ := h
    exact ⟨v, us, e, TrAt.kt k t v a, TrsAt.kt k r us b⟩
end
theorem BodyAt.kt {K : PySem.W.Frag} {H H' : Hp} {b : List Tr} {v : V} (k : Kt H H') (h : BodyAt K H b v) : BodyAt K H' b v := by
  obtain ⟨c, vs, e, s, r⟩ := h
  exact ⟨c, vs, e, k.sq s, TrsAt.kt k b vs r⟩
theorem TrsAt.length {K : PySem.W.Frag} {H : Hp} : ∀ {b : List Tr} {vs : List V}, TrsAt K H b vs → vs.length = b.length
  | [], vs, h => by
    rw [TrsAt] at h
    rw [h]
    rfl
  | t :: r, vs, h => by
    rw [TrsAt] at h
    obtain ⟨v, us, rfl, _, k⟩ := h
    rw [List.length_cons, List.length_cons, TrsAt.length k]
theorem TrsAt.get {K : PySem.W.Frag} {H : Hp} : ∀ {b : List Tr} {vs : List V} {i : Nat} {v : V}, TrsAt K H b vs → vs[i]? = some v → ∃ t, b[i]? = some t ∧ TrAt K H t v
  | [], vs, i, v, h, e => by
    rw [TrsAt] at h
    rw [h] at e
    simp at e
  | t :: r, vs, 0, v, h, e => by
    rw [TrsAt] at h
    obtain ⟨v', us, rfl, a, _⟩ := h
    cases e
    exact ⟨t, rfl, a⟩
  | t :: r, vs, i + 1, v, h, e => by
    rw [TrsAt] at h
    obtain ⟨v', us, rfl, _, k⟩ := h
    exact TrsAt.get (i := i) k e
theorem TrsAt.append {K : PySem.W.Frag} {H : Hp} : ∀ {b c : List Tr} {vs us : List V}, TrsAt K H b vs → TrsAt K H c us → TrsAt K H (b ++ c) (vs ++ us)
  | [], c, vs, us, h, k => by
    rw [TrsAt] at h
    rw [h]
    exact k
  | t :: r, c, vs, us, h, k => by
    rw [TrsAt] at h
    obtain ⟨v, ws, rfl, a, l⟩ := h
    show TrsAt K H (t :: (r ++ c)) (v :: (ws ++ us))
    rw [TrsAt]
    exact ⟨v, _, rfl, a, TrsAt.append l k⟩
theorem TrsAt.one {K : PySem.W.Frag} {H : Hp} {t : Tr} {v : V} (h : TrAt K H t v) : TrsAt K H [t] [v] := by
  rw [TrsAt]
  exact ⟨v, [], rfl, h, by rw [TrsAt]⟩
theorem TrsAt.nil {K : PySem.W.Frag} {H : Hp} : TrsAt K H [] [] := by rw [TrsAt]
/-! ### promises about trees -/
def spTI (K : PySem.W.Frag) (ok : List Tr → Prop) (f : List Tr → Int) : Sp := fun vs H Q _ => ∃ v b, vs = [v] ∧ BodyAt K H b v ∧ ok b ∧ ∀ H', Same H H' → Q (.int (f b)) H'
def spII (K : PySem.W.Frag) (ok : Tr → Prop) (f : Tr → Int) : Sp := fun vs H Q _ => ∃ v t, vs = [v] ∧ TrAt K H t v ∧ ok t ∧ ∀ H', Same H H' → Q (.int (f t)) H'
def spWI (K : PySem.W.Frag) (ok : List Tr → Prop) : Sp := fun vs H Q _ => ∃ v b w, vs = [v, .str w] ∧ BodyAt K H b v ∧ ok b ∧ w ≠ "loop" ∧ ∀ H', Same H H' → Q (.int (cnts w b)) H'
theorem same_upd {H H' : Hp} {D : Addr} {o : HO} (s : Same H H') (n : H D = none) : Same H (upd H' D o) := fun b x e => by
  rw [upd_ne (ne_of_none e n)]
  exact s _ _ e
end Lj
namespace Lj
mutual
theorem Tr.dep_nn : ∀ t : Tr, 0 ≤ t.dep
  | .op _ _ => by rw [Tr.dep]; decide
  | .loop _ b => by
    rw [Tr.dep]
    have := deps_nn b
    omega
theorem deps_nn : ∀ b : List Tr, 0 ≤ deps b
  | [] => by rw [deps]; decide
  | t :: r => by
    rw [deps]
    have h1 := Tr.dep_nn t
    have h2 := deps_nn r
    split <;> omega
end
end Lj
set_option Elab.async false
set_option linter.all false
set_option maxRecDepth 100000
namespace Lj
open PySem PySem.Spec PyProof.Rows L2
def prs : List Int := [2, 2, 3, 3, 5, 7, 7, 11, 13, 97, 251, 9973, 10007]
theorem prs_bd {q : Int} (h : q ∈ prs) : 2 ≤ q ∧ q ≤ 10007 := by
  have z : (prs.all fun q => decide (2 ≤ q) && decide (q ≤ 10007)) = true := by decide
  have k := List.all_eq_true.mp z q h
  rw [Bool.and_eq_true] at k
  exact ⟨of_decide_eq_true k.1, of_decide_eq_true k.2⟩
def spPrimeU : Sp := fun vs H Q _ => ∃ p : Addr, vs = [.ref p] ∧ Urn H p ∧ ∀ (q : Int) H', q ∈ prs → Urn H' p → But p H H' → Q (.int q) H'
theorem wide_big {n : Int} (h : n ≤ 10 ^ 40) (h0 : 0 ≤ n) : n.natAbs < wide := by
  have z : (10 ^ 40 : Nat) < wide := by decide +kernel
  omega
/-! ### list.count of texts -/
def eqs (z : Str) (v : Value) : Bool := match v with
  | .str y _ => y == z
  | _ => false
theorem count_strs {z : Str} : ∀ {us : List Value} {ss : List Str}, Vals (ss.map V.str) us → us.countP (eqs z) = ss.count z
  | _, [], .nil => rfl
  | _, s :: ss, .cons ⟨t, rfl⟩ r => by
    rw [List.countP_cons, count_strs r, List.count_cons]
    rfl
theorem mem_strs : ∀ {us : List Value} {ss : List Str} {u : Value}, Vals (ss.map V.str) us → u ∈ us → ∃ s t, u = .str s t
  | _, [], _, .nil, m => by cases m
  | _, s :: ss, u, .cons ⟨t, rfl⟩ r, m => by
    rcases List.mem_cons.mp m with rfl | m
    · exact ⟨s, t, rfl⟩
    · exact mem_strs r m
theorem mt_count_str {X : Cx} : MtR X "list.count" (fun x xs H Q => ∃ (p : Addr) (ss : List Str) (z : Str), x = .ref p ∧ xs = [.str z] ∧ SqL X.K H p (ss.map V.str) ∧ Q (.int (ss.count z : Nat)) H) := by
  intro pins s σ H x xs v us Q I rx rxs h
  obtain ⟨p, ss, z, rfl, rfl, sq, q⟩ := h
  cases rx
  obtain ⟨u, rfl, ⟨t, rfl⟩⟩ := rxs.one
  obtain ⟨its, rv, ⟨⟨cls, dd, data, sl⟩, n, ho, hc, hdn, hd⟩, hlen⟩ := I.list sq
  simp only at hc hd
  subst hc hd
  refine call_meets PySem.F.slot_list_count ⟨_, ho, rfl⟩ PySem.F.entry_list_count (PySem.F.args_list_count_2 _ _) (SeqAt.list_countAt p its.toArray n dd sl (.str z t) (eqs z)) ⟨ho, fun y hy => ?_, ?_⟩
  · obtain ⟨a, b, rfl⟩ := mem_strs rv (by simpa using hy)
    exact eqAt_V (y := .str a) (x := .str z) ⟨b, rfl⟩ ⟨t, rfl⟩ rfl rfl
  · refine ⟨.int (ss.count z : Nat), H, I.tok _, ⟨s.toks, ?_⟩, q⟩
    rw [← count_strs rv]
/-! ### instructions as the laws draw them -/
def W7 : List Str := ["set", "copy", "add", "scale", "swap", "read", "write"]
theorem W7_noloop {w : Str} (h : w ∈ W7) : w ≠ "loop" := by
  have z : (W7.all fun w => !(w == ("loop" : Str))) = true := by decide
  have k := List.all_eq_true.mp z w h
  intro e
  subst e
  revert k
  decide
theorem W7_ok {w : Str} (h : w ∈ W7) : PyData.strOk w = true := by
  have z : (W7.all fun w => PyData.strOk w) = true := by decide +kernel
  exact List.all_eq_true.mp z w h
def GoodOp (p n : Int) (w : Str) (as : List Int) : Prop :=
  ((w = "set" ∨ w = "scale") ∧ ∃ x c, as = [x, c] ∧ 0 ≤ x ∧ x < n ∧ 0 ≤ c ∧ c < p) ∨
  ((w = "read" ∨ w = "write") ∧ ∃ x, as = [x] ∧ 0 ≤ x ∧ x < n) ∨
  ((w = "copy" ∨ w = "swap") ∧ ∃ x y, as = [x, y] ∧ 0 ≤ x ∧ x < n ∧ 0 ≤ y ∧ y < n ∧ x ≠ y) ∨
  (w = "add" ∧ ∃ x y c, as = [x, y, c] ∧ 0 ≤ x ∧ x < n ∧ 0 ≤ y ∧ y < n ∧ x ≠ y ∧ 1 ≤ c ∧ c < p)
theorem GoodOp.w7 {p n : Int} {w : Str} {as : List Int} (h : GoodOp p n w as) : w ∈ W7 := by
  rcases h with ⟨rfl | rfl, _⟩ | ⟨rfl | rfl, _⟩ | ⟨rfl | rfl, _⟩ | ⟨rfl, _⟩ <;> decide
mutual
/-- drawn: at most l instructions, loops at most d deep, half as many within; G: of the others, R: of the rounds -/
def Tr.made (G : Str → List Int → Prop) (R : Int → Prop) : Tr → Nat → Nat → Prop
  | .op w as, _, _ => G w as
  | .loop _ _, _, 0 => False
  | .loop k b, l, d + 1 => R k ∧ b.length ≤ l / 2 ∧ mades G R b (l / 2) d
def mades (G : Str → List Int → Prop) (R : Int → Prop) : List Tr → Nat → Nat → Prop
  | [], _, _ => True
  | t :: r, l, d => t.made G R l d ∧ mades G R r l d
end
theorem mades_append {G : Str → List Int → Prop} {R : Int → Prop} : ∀ {b c : List Tr} {l d : Nat}, mades G R b l d → mades G R c l d → mades G R (b ++ c) l d
  | [], _, _, _, _, k => k
  | t :: r, c, l, d, h, k => by
    rw [mades] at h
    show mades G R (t :: (r ++ c)) l d
    rw [mades]
    exact ⟨h.1, mades_append h.2 k⟩
theorem mades_one {G : Str → List Int → Prop} {R : Int → Prop} {t : Tr} {l d : Nat} (h : t.made G R l d) : mades G R [t] l d := by
  rw [mades, mades]
  exact ⟨h, trivial⟩
theorem mades_nil {G : Str → List Int → Prop} {R : Int → Prop} {l d : Nat} : mades G R [] l d := by
  rw [mades]
  trivial
mutual
theorem Tr.made_wf {G : Str → List Int → Prop} {R : Int → Prop} (hG : ∀ w as, G w as → w ∈ W7) (hR : ∀ k, R k → 0 ≤ k ∧ k ≤ 10 ^ 18) : ∀ (t : Tr) (l d : Nat), l ≤ 1000 → t.made G R l d → t.wf d
  | .op w as, l, d, _, h => by
    rw [Tr.made] at h
    rw [Tr.wf]
    exact W7_noloop (hG w as h)
  | .loop k b, l, 0, _, h => by
    rw [Tr.made] at h
    exact h.elim
  | .loop k b, l, d + 1, hl, h => by
    rw [Tr.made] at h
    rw [Tr.wf]
    exact ⟨(hR k h.1).1, (hR k h.1).2, by omega, mades_wf hG hR b (l / 2) d (by omega) h.2.2⟩
theorem mades_wf {G : Str → List Int → Prop} {R : Int → Prop} (hG : ∀ w as, G w as → w ∈ W7) (hR : ∀ k, R k → 0 ≤ k ∧ k ≤ 10 ^ 18) : ∀ (b : List Tr) (l d : Nat), l ≤ 1000 → mades G R b l d → wfs b d
  | [], _, _, _, _ => by rw [wfs]; trivial
  | t :: r, l, d, hl, h => by
    rw [mades] at h
    rw [wfs]
    exact ⟨Tr.made_wf hG hR t l d hl h.1, mades_wf hG hR r l d hl h.2⟩
end
/-- the most steps that such a body executes, loops of at most 3 rounds -/
def most : Nat → Nat → Nat
  | 0, _ => 1
  | d + 1, l => max 1 (3 * ((l / 2) * most d (l / 2)))
mutual
theorem Tr.made_ex {G : Str → List Int → Prop} {R : Int → Prop} (hR : ∀ k, R k → 0 ≤ k ∧ k ≤ 3) : ∀ (t : Tr) (l d : Nat), t.made G R l d → t.ex.length ≤ most d l
  | .op w as, l, 0, h => by rw [Tr.ex, most]; exact Nat.le_refl 1
  | .op w as, l, d + 1, h => by rw [Tr.ex, most]; exact Nat.le_max_left _ _
  | .loop k b, l, 0, h => by
    rw [Tr.made] at h
    exact h.elim
  | .loop k b, l, d + 1, h => by
    rw [Tr.made] at h
    have ih := mades_ex hR b (l / 2) d h.2.2
    have hk := hR k h.1
    rw [Tr.ex, most, List.length_flatten, List.map_replicate, List.sum_replicate_nat]
    refine Nat.le_trans ?_ (Nat.le_max_right _ _)
    have h1 : (exs b).length ≤ l / 2 * most d (l / 2) := Nat.le_trans ih (Nat.mul_le_mul_right _ h.2.1)
    exact Nat.mul_le_mul (by omega) h1
theorem mades_ex {G : Str → List Int → Prop} {R : Int → Prop} (hR : ∀ k, R k → 0 ≤ k ∧ k ≤ 3) : ∀ (b : List Tr) (l d : Nat), mades G R b l d → (exs b).length ≤ b.length * most d l
  | [], _, _, _ => by rw [exs]; exact Nat.zero_le _
  | t :: r, l, d, h => by
    rw [mades] at h
    have h1 := Tr.made_ex hR t l d h.1
    have h2 := mades_ex hR r l d h.2
    rw [exs, List.length_append, List.length_cons, Nat.succ_mul]
    omega
end
/-! ### what is executed: numbers -/
theorem flat_len {α : Type} (n : Nat) (xs : List α) : ((List.replicate n xs).flatten).length = n * xs.length := by
  rw [List.length_flatten, List.map_replicate, List.sum_replicate_nat]
mutual
theorem Tr.ex_len : ∀ (t : Tr) (d : Nat), t.wf d → (t.ex.length : Int) = t.len
  | .op w as, _, _ => by rw [Tr.ex, Tr.len]; rfl
  | .loop k b, 0, h => by rw [Tr.wf] at h; exact h.elim
  | .loop k b, d + 1, h => by
    rw [Tr.wf] at h
    have ih := exs_len b d h.2.2.2
    rw [Tr.ex, Tr.len, flat_len, ← ih, Int.natCast_mul]
    congr 1
    omega
theorem exs_len : ∀ (b : List Tr) (d : Nat), wfs b d → ((exs b).length : Int) = lens b
  | [], _, _ => by rw [exs, lens]; rfl
  | t :: r, d, h => by
    rw [wfs] at h
    rw [exs, lens, List.length_append, Int.natCast_add, Tr.ex_len t d h.1, exs_len r d h.2]
end
/-- the word of an instruction -/
def Tr.word : Tr → Str
  | .op w _ => w
  | .loop _ _ => "loop"
theorem count_flat (z : Str) (xs : List Tr) : ∀ n : Nat, (((List.replicate n xs).flatten).map Tr.word).count z = n * (xs.map Tr.word).count z
  | 0 => by simp
  | n + 1 => by rw [List.replicate_succ, List.flatten_cons, List.map_append, List.count_append, count_flat z xs n, Nat.succ_mul, Nat.add_comm]
mutual
theorem Tr.ex_cnt (z : Str) : ∀ (t : Tr) (d : Nat), t.wf d → (((t.ex.map Tr.word).count z : Nat) : Int) = t.cnt z
  | .op w as, _, _ => by
    rw [Tr.ex, Tr.cnt]
    show (([w].count z : Nat) : Int) = _
    rw [List.count_singleton]
    by_cases e : w = z
    · rw [if_pos e, if_pos (beq_iff_eq.mpr e)]
      rfl
    · rw [if_neg e, if_neg (fun h => e (beq_iff_eq.mp h))]
      rfl
  | .loop k b, 0, h => by rw [Tr.wf] at h; exact h.elim
  | .loop k b, d + 1, h => by
    rw [Tr.wf] at h
    have ih := exs_cnt z b d h.2.2.2
    rw [Tr.ex, Tr.cnt, count_flat, ← ih, Int.natCast_mul]
    congr 1
    omega
theorem exs_cnt (z : Str) : ∀ (b : List Tr) (d : Nat), wfs b d → ((((exs b).map Tr.word).count z : Nat) : Int) = cnts z b
  | [], _, _ => by rw [exs, cnts]; rfl
  | t :: r, d, h => by
    rw [wfs] at h
    rw [exs, cnts, List.map_append, List.count_append, Int.natCast_add, Tr.ex_cnt z t d h.1, exs_cnt z r d h.2]
end
/-- all are no loops -/
def Ops (b : List Tr) : Prop := ∀ t ∈ b, ∃ w as, t = .op w as ∧ w ∈ W7
mutual
theorem Tr.ex_ops {G : Str → List Int → Prop} {R : Int → Prop} (hG : ∀ w as, G w as → w ∈ W7) : ∀ (t : Tr) (l d : Nat), t.made G R l d → Ops t.ex
  | .op w as, l, d, h => by
    rw [Tr.made] at h
    rw [Tr.ex]
    intro t m
    exact ⟨w, as, List.mem_singleton.mp m, hG w as h⟩
  | .loop k b, l, 0, h => by rw [Tr.made] at h; exact h.elim
  | .loop k b, l, d + 1, h => by
    rw [Tr.made] at h
    rw [Tr.ex]
    intro t m
    obtain ⟨xs, m1, m2⟩ := List.mem_flatten.mp m
    rw [(List.mem_replicate.mp m1).2] at m2
    exact exs_ops hG b (l / 2) d h.2.2 t m2
theorem exs_ops {G : Str → List Int → Prop} {R : Int → Prop} (hG : ∀ w as, G w as → w ∈ W7) : ∀ (b : List Tr) (l d : Nat), mades G R b l d → Ops (exs b)
  | [], _, _, _ => by rw [exs]; intro t m; cases m
  | t :: r, l, d, h => by
    rw [mades] at h
    rw [exs]
    intro u m
    rcases List.mem_append.mp m with m | m
    · exact Tr.ex_ops hG t l d h.1 u m
    · exact exs_ops hG r l d h.2 u m
end
/-! ### data of instructions -/
def Tr.dat : Tr → PyData
  | .op w as => .tuple (.str w :: as.map .int)
  | .loop _ _ => .none
theorem dp_ints {K : PySem.W.Frag} {H : Hp} : ∀ as : List Int, DpAll K H (as.map V.int) (as.map PyData.int)
  | [] => .nil
  | a :: r => .cons (.int a) (dp_ints r)
theorem lay_ints : ∀ as : List Int, PyData.canLayAll0 (as.map PyData.int) = true
  | [] => by rw [List.map_nil, PyData.canLayAll0]
  | a :: r => by rw [List.map_cons, PyData.canLayAll0, PyData.canLay0, lay_ints r]; rfl
theorem depth_ints : ∀ as : List Int, PyData.depthAll (as.map PyData.int) = 0
  | [] => by rw [List.map_nil, PyData.depthAll]
  | a :: r => by rw [List.map_cons, PyData.depthAll, PyData.depth, depth_ints r]; rfl
theorem Ops.dp {K : PySem.W.Frag} {H : Hp} : ∀ {b : List Tr} {vs : List V}, Ops b → TrsAt K H b vs → DpAll K H vs (b.map Tr.dat)
  | [], vs, _, h => by
    rw [TrsAt] at h
    rw [h]
    exact .nil
  | t :: r, vs, o, h => by
    rw [TrsAt] at h
    obtain ⟨v, us, rfl, a, k⟩ := h
    obtain ⟨w, as, rfl, _⟩ := o t List.mem_cons_self
    rw [TrAt] at a
    obtain ⟨x, rfl, sq⟩ := a
    exact .cons (.tup sq (.cons (.str w) (dp_ints as))) (Ops.dp (fun u m => o u (List.mem_cons_of_mem _ m)) k)
theorem Ops.lay : ∀ {b : List Tr}, Ops b → PyData.canLayAll0 (b.map Tr.dat) = true
  | [], _ => by rw [List.map_nil, PyData.canLayAll0]
  | t :: r, o => by
    obtain ⟨w, as, rfl, hw⟩ := o t List.mem_cons_self
    rw [List.map_cons, PyData.canLayAll0, Ops.lay (fun u m => o u (List.mem_cons_of_mem _ m)), Tr.dat, PyData.canLay0, PyData.canLayAll0, PyData.canLay0, W7_ok hw, lay_ints]
    rfl
theorem Ops.deep : ∀ {b : List Tr}, Ops b → PyData.depthAll (b.map Tr.dat) ≤ 1
  | [], _ => by rw [List.map_nil, PyData.depthAll]; exact Nat.zero_le _
  | t :: r, o => by
    obtain ⟨w, as, rfl, hw⟩ := o t List.mem_cons_self
    have ih := Ops.deep (b := r) (fun u m => o u (List.mem_cons_of_mem _ m))
    rw [List.map_cons, PyData.depthAll, Tr.dat, PyData.depth, PyData.depthAll, PyData.depth, depth_ints]
    omega
theorem Ops.shaped {b : List Tr} (o : Ops b) : SeqAt.shaped (.list (b.map Tr.dat)) = true := by
  unfold SeqAt.shaped
  rw [PyData.canLay0, o.lay, PyData.depth, decide_eq_true (by have := o.deep; omega)]
  rfl
theorem shaped_nil : SeqAt.shaped (.list []) = true := by decide
theorem eqv_nil : ∀ b : List PyData, PyData.eqv (.list b) (.list []) = b.isEmpty
  | [] => by rw [PyData.eqv, PyData.eqvAll]; rfl
  | a :: r => by rw [PyData.eqv, PyData.eqvAll]; rfl
theorem inV2 {w a b : Str} : inV (.str w) [.str a, .str b] = true ↔ (w = a ∨ w = b) := by
  show (a == w || (b == w || false)) = true ↔ _
  rw [Bool.or_false, Bool.or_eq_true, beq_iff_eq, beq_iff_eq]
  constructor
  · rintro (h | h)
    · exact .inl h.symm
    · exact .inr h.symm
  · rintro (h | h)
    · exact .inl h.symm
    · exact .inr h.symm
/-! ### promises of the law's own defs -/
def W9 : List Str := ["set", "copy", "copy", "add", "add", "scale", "swap", "read", "write"]
theorem W9_in : ∀ x ∈ W9, x ∈ W7 := by
  have z : (W9.all fun x => W7.contains x) = true := by decide
  intro x m
  exact List.contains_iff_mem.mp (List.all_eq_true.mp z x m)
def spWords : Sp := fun vs H Q _ => vs = [] ∧ ∀ p, H p = none → Q (.ref p) (upd H p (.lst (W9.map V.str)))
def spItem (K : PySem.W.Frag) : Sp := fun vs H Q _ => ∃ (u ws : Addr) (p n : Int) (wl : List Str), vs = [.ref u, .int p, .int n, .ref ws] ∧ Urn H u ∧ 2 ≤ p ∧ p ≤ 10007 ∧ 1 ≤ n ∧ n ≤ 8 ∧ ws ≠ u ∧ SqL K H ws (wl.map V.str) ∧ wl ≠ [] ∧ wl.length ≤ 1000 ∧ (∀ x ∈ wl, x ∈ W7) ∧
  ∀ w as v H', GoodOp p n w as → (w ∈ wl ∨ w = "set") → TrAt K H' (.op w as) v → Urn H' u → But u H H' → Q v H'
def spBody (K : PySem.W.Frag) (d : Nat) : Sp := fun vs H Q _ => ∃ (u ws rs : Addr) (p n : Int) (wl : List Str) (rl : List Int) (l e : Nat), vs = [.ref u, .int p, .int n, .ref ws, .int (l : Int), .int (e : Int), .ref rs] ∧ Urn H u ∧ 2 ≤ p ∧ p ≤ 10007 ∧ 1 ≤ n ∧ n ≤ 8 ∧ ws ≠ u ∧ SqL K H ws (wl.map V.str) ∧ wl ≠ [] ∧ wl.length ≤ 1000 ∧ (∀ x ∈ wl, x ∈ W7) ∧
  rs ≠ u ∧ SqL K H rs (rl.map V.int) ∧ rl ≠ [] ∧ rl.length ≤ 1000 ∧ l ≤ 1000 ∧ e < d ∧
  ∀ b v H', b.length ≤ l → mades (fun w as => GoodOp p n w as ∧ (w ∈ wl ∨ w = "set")) (fun k => k ∈ rl) b l e → BodyAt K H' b v → Urn H' u → But u H H' → Q v H'
mutual
/-- every body within executes a bounded number of steps -/
def Tr.fine : Tr → Prop
  | .op w _ => w ∈ W7
  | .loop _ b => (exs b).length ≤ 100000 ∧ fines b
def fines : List Tr → Prop
  | [] => True
  | t :: r => t.fine ∧ fines r
end
theorem fines_get : ∀ {b : List Tr} {i : Nat} {t : Tr}, fines b → b[i]? = some t → t.fine
  | [], _, _, _, e => by simp at e
  | t :: r, 0, u, h, e => by
    cases e
    rw [fines] at h
    exact h.1
  | t :: r, i + 1, u, h, e => by
    rw [fines] at h
    exact fines_get (i := i) h.2 e
mutual
theorem Tr.fine_ops : ∀ t : Tr, t.fine → Ops t.ex
  | .op w as, h => by
    rw [Tr.fine] at h
    rw [Tr.ex]
    intro t m
    exact ⟨w, as, List.mem_singleton.mp m, h⟩
  | .loop k b, h => by
    rw [Tr.fine] at h
    rw [Tr.ex]
    intro t m
    obtain ⟨xs, m1, m2⟩ := List.mem_flatten.mp m
    rw [(List.mem_replicate.mp m1).2] at m2
    exact fines_ops b h.2 t m2
theorem fines_ops : ∀ b : List Tr, fines b → Ops (exs b)
  | [], _ => by rw [exs]; intro t m; cases m
  | t :: r, h => by
    rw [fines] at h
    rw [exs]
    intro u m
    rcases List.mem_append.mp m with m | m
    · exact Tr.fine_ops t h.1 u m
    · exact fines_ops r h.2 u m
end
theorem most0 : ∀ d, most d 0 = 1
  | 0 => rfl
  | d + 1 => by
    rw [most]
    show max 1 (3 * (0 * _)) = 1
    rw [Nat.zero_mul]
    rfl
theorem most_pos : ∀ d l, 1 ≤ most d l
  | 0, _ => Nat.le_refl 1
  | d + 1, l => by rw [most]; exact Nat.le_max_left _ _
mutual
theorem Tr.made_fine {G : Str → List Int → Prop} {R : Int → Prop} (hG : ∀ w as, G w as → w ∈ W7) (hR : ∀ k, R k → 0 ≤ k ∧ k ≤ 3) : ∀ (t : Tr) (l d : Nat), max 1 l * most d l ≤ 100000 → t.made G R l d → t.fine
  | .op w as, l, d, _, h => by
    rw [Tr.made] at h
    rw [Tr.fine]
    exact hG w as h
  | .loop k b, l, 0, _, h => by rw [Tr.made] at h; exact h.elim
  | .loop k b, l, d + 1, hb, h => by
    rw [Tr.made] at h
    rw [Tr.fine]
    have h1 : 3 * (l / 2 * most d (l / 2)) ≤ 100000 := by
      have h0 : most (d + 1) l ≤ 100000 := Nat.le_trans (Nat.le_mul_of_pos_left _ (by omega)) hb
      rw [most] at h0
      exact Nat.le_trans (Nat.le_max_right _ _) h0
    have h2 := mades_ex hR b (l / 2) d h.2.2
    have h3 : b.length * most d (l / 2) ≤ l / 2 * most d (l / 2) := Nat.mul_le_mul_right _ h.2.1
    refine ⟨by omega, mades_fine hG hR b (l / 2) d ?_ h.2.2⟩
    by_cases z : l / 2 = 0
    · rw [z, most0]
      decide
    · rw [show max 1 (l / 2) = l / 2 by omega]
      omega
theorem mades_fine {G : Str → List Int → Prop} {R : Int → Prop} (hG : ∀ w as, G w as → w ∈ W7) (hR : ∀ k, R k → 0 ≤ k ∧ k ≤ 3) : ∀ (b : List Tr) (l d : Nat), max 1 l * most d l ≤ 100000 → mades G R b l d → fines b
  | [], _, _, _, _ => by rw [fines]; trivial
  | t :: r, l, d, hl, h => by
    rw [mades] at h
    rw [fines]
    exact ⟨Tr.made_fine hG hR t l d hl h.1, mades_fine hG hR r l d hl h.2⟩
end
theorem mades_big {G : Str → List Int → Prop} {R : Int → Prop} (hR : ∀ k, R k → 0 ≤ k ∧ k ≤ 3) {b : List Tr} {l d : Nat} (hl : b.length ≤ l) (hm : max 1 l * most d l ≤ 100000) (h : mades G R b l d) : (exs b).length ≤ 100000 := by
  have h1 := mades_ex hR b l d h
  have h2 : b.length * most d l ≤ max 1 l * most d l := Nat.mul_le_mul_right _ (by omega)
  omega
theorem most84 : max 1 8 * most 4 8 ≤ 100000 := by decide
def spExec (K : PySem.W.Frag) (d : Nat) : Sp := fun vs H Q _ => ∃ v b, vs = [v] ∧ BodyAt K H b v ∧ okB d b ∧ fines b ∧ (exs b).length ≤ 100000 ∧
  ∀ H' l us, Same H H' → H l = none → H' l = some (.lst us) → TrsAt K H' (exs b) us → Q (.ref l) H'
end Lj
set_option Elab.async false
set_option linter.all false
set_option maxRecDepth 100000
namespace Lj
open PySem PySem.Spec PyProof.Rows L2
theorem iteNN {c A B : Prop} [Decidable c] (h : ¬ c) (a : A) : if (!decide c) = true then A else B := by
  rw [decide_eq_false h]
  exact a
/-! ### repr of lists of numbers -/
/-- a number, None, a truth value, shown in a few signs -/
def Leaf (d : PyData) : Prop := d.showable = true ∧ d.hasDict = false ∧ d.depth = 0 ∧ d.shown.length ≤ 1921
theorem leaf_int {i : Int} (h : i.natAbs.log2 < 1920) : Leaf (.int i) := ⟨by rw [PyData.showable]; exact decide_eq_true h, by rw [PyData.hasDict], by rw [PyData.depth], by rw [PyData.shown]; exact int_text_len_1921 h⟩
theorem leaf_none : Leaf .none := ⟨by rw [PyData.showable], by rw [PyData.hasDict], by rw [PyData.depth], by rw [PyData.shown]; decide⟩
theorem leaf_all : ∀ {ds : List PyData}, (∀ d ∈ ds, Leaf d) → PyData.showableAll ds = true ∧ PyData.hasDictAll ds = false ∧ PyData.depthAll ds = 0 ∧ ((PyData.shownAll ds).map (·.length)).sum ≤ 1921 * ds.length ∧ (PyData.shownAll ds).length = ds.length
  | [], _ => ⟨by rw [PyData.showableAll], by rw [PyData.hasDictAll], by rw [PyData.depthAll], by rw [PyData.shownAll]; exact Nat.zero_le _, by rw [PyData.shownAll]; rfl⟩
  | d :: r, h => by
    obtain ⟨a1, a2, a3, a4⟩ := h d List.mem_cons_self
    obtain ⟨b1, b2, b3, b4, b5⟩ := leaf_all (ds := r) fun x m => h x (List.mem_cons_of_mem _ m)
    refine ⟨by rw [PyData.showableAll, a1, b1]; rfl, by rw [PyData.hasDictAll, a2, b2]; rfl, by rw [PyData.depthAll, a3, b3]; rfl, ?_, by rw [PyData.shownAll, List.length_cons, b5, List.length_cons]⟩
    rw [PyData.shownAll, List.map_cons, List.sum_cons, List.length_cons]
    omega
theorem leaf_list {ds : List PyData} (h : ∀ d ∈ ds, Leaf d) (n : ds.length ≤ 8000) : (PyData.list ds).showable = true ∧ (PyData.list ds).hasDict = false ∧ (PyData.list ds).depth ≤ 64 ∧ (PyData.list ds).shown.length ≤ sizeLine := by
  obtain ⟨b1, b2, b3, b4, b5⟩ := leaf_all h
  refine ⟨by rw [PyData.showable]; exact b1, by rw [PyData.hasDict]; exact b2, by rw [PyData.depth, b3]; decide, ?_⟩
  rw [PyData.shown, sizeLine_eq]
  have := PySem.listText_len_le (PyData.shownAll ds)
  omega
theorem dp_int_list {K : PySem.W.Frag} {H : Hp} {a : Addr} {ns : List Int} (h : SqL K H a (ns.map V.int)) : Dp K H (.ref a) (.list (ns.map PyData.int)) := .lst h (dp_ints ns)
theorem log_of {i : Int} {k : Nat} (h : i.natAbs < 2 ^ k) (k0 : 0 < k) (k1 : k ≤ 1920) : i.natAbs.log2 < 1920 := Nat.lt_of_lt_of_le (PySem.Flt.log2_lt_of k0 h) k1
theorem leaf_ints {ns : List Int} (h : ∀ n ∈ ns, n.natAbs < 2 ^ 1000) : ∀ d ∈ ns.map PyData.int, Leaf d := by
  intro d m
  obtain ⟨n, hn, rfl⟩ := List.mem_map.mp m
  exact leaf_int (log_of (h n hn) (by decide) (by decide))
/-! ### bounds -/
def top : Nat → Int
  | 0 => 1
  | d + 1 => 10 ^ 18 * (1000 * top d)
theorem top_pos : ∀ d, 1 ≤ top d
  | 0 => by decide
  | d + 1 => by
    have := top_pos d
    rw [top]
    omega
mutual
theorem Tr.len_bd : ∀ (t : Tr) (d : Nat), t.wf d → 0 ≤ t.len ∧ t.len ≤ top d
  | .op w as, d, _ => by
    rw [Tr.len]
    exact ⟨by decide, top_pos d⟩
  | .loop k b, 0, h => by rw [Tr.wf] at h; exact h.elim
  | .loop k b, d + 1, h => by
    rw [Tr.wf] at h
    obtain ⟨i0, i1⟩ := lens_bd b d h.2.2.2
    have tp := top_pos d
    have i2 : lens b ≤ 1000 * top d := Int.le_trans i1 (Int.mul_le_mul_of_nonneg_right (by omega) (by omega))
    rw [Tr.len, top]
    exact ⟨Int.mul_nonneg h.1 i0, Int.mul_le_mul h.2.1 i2 i0 (by decide)⟩
theorem lens_bd : ∀ (b : List Tr) (d : Nat), wfs b d → 0 ≤ lens b ∧ lens b ≤ (b.length : Int) * top d
  | [], d, _ => by rw [lens]; exact ⟨by decide, by simp⟩
  | t :: r, d, h => by
    rw [wfs] at h
    obtain ⟨a0, a1⟩ := Tr.len_bd t d h.1
    obtain ⟨b0, b1⟩ := lens_bd r d h.2
    rw [lens, List.length_cons]
    refine ⟨by omega, ?_⟩
    rw [show ((r.length + 1 : Nat) : Int) = (r.length : Int) + 1 from rfl, Int.add_mul, Int.one_mul]
    omega
end
mutual
theorem Tr.cnt_bd (z : Str) : ∀ (t : Tr) (d : Nat), t.wf d → 0 ≤ t.cnt z ∧ t.cnt z ≤ t.len
  | .op w as, d, _ => by
    rw [Tr.len, Tr.cnt]
    split <;> exact ⟨by decide, by decide⟩
  | .loop k b, 0, h => by rw [Tr.wf] at h; exact h.elim
  | .loop k b, d + 1, h => by
    rw [Tr.wf] at h
    obtain ⟨i0, i1⟩ := cnts_bd z b d h.2.2.2
    rw [Tr.len, Tr.cnt]
    exact ⟨Int.mul_nonneg h.1 i0, Int.mul_le_mul_of_nonneg_left i1 h.1⟩
theorem cnts_bd (z : Str) : ∀ (b : List Tr) (d : Nat), wfs b d → 0 ≤ cnts z b ∧ cnts z b ≤ lens b
  | [], d, _ => by rw [lens, cnts]; exact ⟨by decide, by decide⟩
  | t :: r, d, h => by
    rw [wfs] at h
    obtain ⟨a0, a1⟩ := Tr.cnt_bd z t d h.1
    obtain ⟨b0, b1⟩ := cnts_bd z r d h.2
    rw [lens, cnts]
    omega
end
mutual
theorem Tr.inn_bd : ∀ (t : Tr) (d : Nat), t.wf d → 0 ≤ t.inn ∧ t.inn ≤ top d
  | .op w as, d, _ => by
    rw [Tr.inn]
    have := top_pos d
    omega
  | .loop k b, 0, h => by rw [Tr.wf] at h; exact h.elim
  | .loop k b, d + 1, h => by
    rw [Tr.wf] at h
    obtain ⟨i0, i1⟩ := inns_bd b d h.2.2.2
    have tp := top_pos d
    have i2 : inns b ≤ 1000 * top d := Int.le_trans i1 (Int.mul_le_mul_of_nonneg_right (by omega) (by omega))
    rw [Tr.inn, top]
    omega
theorem inns_bd : ∀ (b : List Tr) (d : Nat), wfs b d → 0 ≤ inns b ∧ inns b ≤ (b.length : Int) * top d
  | [], d, _ => by rw [inns]; exact ⟨by decide, by simp⟩
  | t :: r, d, h => by
    rw [wfs] at h
    obtain ⟨a0, a1⟩ := Tr.inn_bd t d h.1
    obtain ⟨b0, b1⟩ := inns_bd r d h.2
    rw [inns, List.length_cons]
    refine ⟨by omega, ?_⟩
    rw [show ((r.length + 1 : Nat) : Int) = (r.length : Int) + 1 from rfl, Int.add_mul, Int.one_mul]
    omega
end
mutual
theorem Tr.dep_bd : ∀ (t : Tr) (d : Nat), t.wf d → t.dep ≤ d
  | .op w as, d, _ => by rw [Tr.dep]; omega
  | .loop k b, 0, h => by rw [Tr.wf] at h; exact h.elim
  | .loop k b, d + 1, h => by
    rw [Tr.wf] at h
    have := deps_bd b d h.2.2.2
    rw [Tr.dep]
    omega
theorem deps_bd : ∀ (b : List Tr) (d : Nat), wfs b d → deps b ≤ d
  | [], d, _ => by rw [deps]; omega
  | t :: r, d, h => by
    rw [wfs] at h
    have h1 := Tr.dep_bd t d h.1
    have h2 := deps_bd r d h.2
    rw [deps]
    split <;> omega
end
theorem lens_log {b : List Tr} {d : Nat} (h : okB (d + 1) b) (hd : d ≤ 6) : (lens b).natAbs < 2 ^ 1000 := by
  obtain ⟨h0, h1⟩ := lens_bd b d h.1
  have tp := top_pos d
  have h2 : lens b ≤ 1000 * top d := Int.le_trans h1 (Int.mul_le_mul_of_nonneg_right (by have := h.2; omega) (by omega))
  have h3 : 1000 * top d < 2 ^ 1000 := by
    have : d = 0 ∨ d = 1 ∨ d = 2 ∨ d = 3 ∨ d = 4 ∨ d = 5 ∨ d = 6 := by omega
    rcases this with rfl | rfl | rfl | rfl | rfl | rfl | rfl <;> decide +kernel
  omega
/-! ### once, and with great rounds -/
mutual
def Tr.once : Tr → Tr
  | .op w as => .op w as
  | .loop _ b => .loop 1 (onces b)
def onces : List Tr → List Tr
  | [] => []
  | t :: r => t.once :: onces r
end
theorem onces_map : ∀ b : List Tr, onces b = b.map Tr.once
  | [] => by rw [onces]; rfl
  | t :: r => by rw [onces, onces_map r]; rfl
mutual
theorem Tr.made_once {G : Str → List Int → Prop} {R : Int → Prop} : ∀ (t : Tr) (l d : Nat), t.made G R l d → t.once.made G (fun k => k = 1) l d
  | .op w as, l, d, h => by
    rw [Tr.made] at h
    rw [Tr.once, Tr.made]
    exact h
  | .loop k b, l, 0, h => by rw [Tr.made] at h; exact h.elim
  | .loop k b, l, d + 1, h => by
    rw [Tr.made] at h
    rw [Tr.once, Tr.made]
    exact ⟨rfl, by rw [onces_map, List.length_map]; exact h.2.1, mades_once b (l / 2) d h.2.2⟩
theorem mades_once {G : Str → List Int → Prop} {R : Int → Prop} : ∀ (b : List Tr) (l d : Nat), mades G R b l d → mades G (fun k => k = 1) (onces b) l d
  | [], l, d, _ => by rw [onces]; exact mades_nil
  | t :: r, l, d, h => by
    rw [mades] at h
    rw [onces, mades]
    exact ⟨Tr.made_once t l d h.1, mades_once r l d h.2⟩
end
/-- no step of the word z, were each loop executed once -/
def NoW (z : Str) (b : List Tr) : Prop := z ∉ (exs (onces b)).map Tr.word
mutual
theorem Tr.noW (z : Str) : ∀ t : Tr, z ∉ (t.once.ex).map Tr.word → t.cnt z = 0
  | .op w as, h => by
    rw [Tr.once, Tr.ex] at h
    rw [Tr.cnt, if_neg]
    intro e
    exact h (by subst e; exact List.mem_singleton.mpr rfl)
  | .loop k b, h => by
    rw [Tr.once, Tr.ex] at h
    rw [Tr.cnt, noWs z b (by
      intro m
      refine h ?_
      show z ∈ (List.flatten [exs (onces b)]).map Tr.word
      rw [List.flatten_cons, List.flatten_nil, List.append_nil]
      exact m), Int.mul_zero]
theorem noWs (z : Str) : ∀ b : List Tr, NoW z b → cnts z b = 0
  | [], _ => by rw [cnts]
  | t :: r, h => by
    unfold NoW at h
    rw [onces, exs, List.map_append, List.mem_append] at h
    rw [cnts, Tr.noW z t (fun m => h (.inl m)), noWs z r (fun m => h (.inr m))]
    rfl
end
mutual
/-- the same but for rounds, and these only where nothing is read or written -/
def Tr.gr : Tr → Tr → Prop
  | .op w as, t => t = .op w as
  | .loop k b, t => ∃ k' b', t = .loop k' b' ∧ 0 ≤ k' ∧ k' ≤ 10 ^ 18 ∧ grs b b' ∧ (k' = k ∨ (NoW "read" b' ∧ NoW "write" b'))
def grs : List Tr → List Tr → Prop
  | [], g => g = []
  | t :: r, g => ∃ t' r', g = t' :: r' ∧ t.gr t' ∧ grs r r'
end
theorem grs_snoc : ∀ {b g : List Tr} {t t' : Tr}, grs b g → t.gr t' → grs (b ++ [t]) (g ++ [t'])
  | [], g, t, t', h, k => by
    rw [grs] at h
    rw [h]
    show grs [t] [t']
    rw [grs]
    exact ⟨t', [], rfl, k, by rw [grs]⟩
  | a :: r, g, t, t', h, k => by
    rw [grs] at h
    obtain ⟨a', r', rfl, h1, h2⟩ := h
    show grs (a :: (r ++ [t])) (a' :: (r' ++ [t']))
    rw [grs]
    exact ⟨a', _, rfl, h1, grs_snoc h2 k⟩
mutual
theorem Tr.gr_all : ∀ (t t' : Tr), t.gr t' → t'.once = t.once ∧ t'.inn = t.inn ∧ t'.dep = t.dep ∧ (∀ d, t.wf d → t'.wf d) ∧ (∀ G R l d, t.made G R l d → t'.made G (fun k => R k ∨ (0 ≤ k ∧ k ≤ 10 ^ 18)) l d) ∧ ((t.cnt "read" = t'.cnt "read") ∧ (t.cnt "write" = t'.cnt "write"))
  | .op w as, t', h => by
    rw [Tr.gr] at h
    subst h
    refine ⟨rfl, rfl, rfl, fun _ h => h, fun G R l d h => ?_, rfl, rfl⟩
    rw [Tr.made] at h ⊢
    exact h
  | .loop k b, t', h => by
    rw [Tr.gr] at h
    obtain ⟨k', b', rfl, k0, k1, hg, hk⟩ := h
    obtain ⟨e1, e2, e3, e4, e5, e6, e7⟩ := grs_all b b' hg
    refine ⟨by rw [Tr.once, Tr.once, e1], by rw [Tr.inn, Tr.inn, e2, e7.1], by rw [Tr.dep, Tr.dep, e3], fun d h => ?_, fun G R l d h => ?_, ?_⟩
    · cases d with
      | zero => rw [Tr.wf] at h; exact h.elim
      | succ d =>
        rw [Tr.wf] at h ⊢
        exact ⟨k0, k1, by rw [e7.1]; exact h.2.2.1, e4 d h.2.2.2⟩
    · cases d with
      | zero => rw [Tr.made] at h; exact h.elim
      | succ d =>
        rw [Tr.made] at h ⊢
        exact ⟨.inr ⟨k0, k1⟩, by rw [e7.1]; exact h.2.1, e5 G R _ _ h.2.2⟩
    · rw [Tr.cnt, Tr.cnt, Tr.cnt, Tr.cnt]
      rcases hk with rfl | ⟨n1, n2⟩
      · rw [e6.1, e6.2]
        exact ⟨rfl, rfl⟩
      · rw [e6.1, e6.2, noWs _ b' n1, noWs _ b' n2, Int.mul_zero, Int.mul_zero]
        exact ⟨rfl, rfl⟩
theorem grs_all : ∀ (b g : List Tr), grs b g → onces g = onces b ∧ inns g = inns b ∧ deps g = deps b ∧ (∀ d, wfs b d → wfs g d) ∧ (∀ G R l d, mades G R b l d → mades G (fun k => R k ∨ (0 ≤ k ∧ k ≤ 10 ^ 18)) g l d) ∧ ((cnts "read" b = cnts "read" g) ∧ (cnts "write" b = cnts "write" g)) ∧ (g.length = b.length ∧ True)
  | [], g, h => by
    rw [grs] at h
    subst h
    exact ⟨rfl, rfl, rfl, fun _ h => h, fun _ _ _ _ _ => mades_nil, ⟨rfl, rfl⟩, rfl, trivial⟩
  | t :: r, g, h => by
    rw [grs] at h
    obtain ⟨t', r', rfl, h1, h2⟩ := h
    obtain ⟨a1, a2, a3, a4, a5, a6⟩ := Tr.gr_all t t' h1
    obtain ⟨e1, e2, e3, e4, e5, e6, e7⟩ := grs_all r r' h2
    refine ⟨by rw [onces, onces, a1, e1], by rw [inns, inns, a2, e2], by rw [deps, deps, a3, e3], fun d h => ?_, fun G R l d h => ?_, ⟨by rw [cnts, cnts, a6.1, e6.1], by rw [cnts, cnts, a6.2, e6.2]⟩, by rw [List.length_cons, List.length_cons, e7.1], trivial⟩
    · rw [wfs] at h ⊢
      exact ⟨a4 d h.1, e4 d h.2⟩
    · rw [mades] at h ⊢
      exact ⟨a5 G R l d h.1, e5 G R l d h.2⟩
end
theorem shaped_ints (ns : List Int) : SeqAt.shaped (.list (ns.map PyData.int)) = true := by
  unfold SeqAt.shaped
  rw [PyData.canLay0, lay_ints, PyData.depth, depth_ints]
  rfl
theorem same_but {H H1 H2 : Hp} {u : Addr} (s : Same H H1) (n : H u = none) (b : But u H1 H2) : Same H H2 := fun x o e => b x o (ne_of_none e n) (s x o e)
/-- one parameter, given by its name -/
theorem kb1 {K : PySem.W.Frag} {x p : Str} {st : Stmt} {f : Addr} {fd : FuncData} (F : Fun K x x st f fd)
    (h : ∀ (kV doc pm : Value) (an : Option Addr) (cdv ct u : Value), bindArgs (PySem.W.fnOf x x (defArgs st) (defBody st) (defScope st) .none kV doc pm an cdv ct) ⟨[], [(p, u)]⟩ = pure [(p, u)]) :
    KBinds K fd [p] [p] (fun us ws => if us.isEmpty then ws else []) (fun us ws => if us.isEmpty then ws else []) := by
  obtain ⟨oc, od, kV, doc, pm, an, cdv, ct, osl, rfl, lk, hcd⟩ := F.ex
  refine ⟨fun s us ws _ hl => ?_, fun {vs us zs ws} r rz => ?_⟩
  · cases us with
    | cons u r =>
      rw [show (u :: r).isEmpty = false from rfl, if_neg Bool.false_ne_true] at hl
      cases hl
    | nil =>
      match ws, hl with
      | [_], _ => exact .of_eq (h ..)
  · cases r with
    | nil => exact rz
    | cons _ _ => exact .nil
end Lj
namespace Lj
mutual
theorem Tr.wf_up : ∀ (t : Tr) (n : Nat), t.wf n → t.wf (n + 1)
  | .op w as, n, h => by
    rw [Tr.wf] at h ⊢
    exact h
  | .loop k b, 0, h => by rw [Tr.wf] at h; exact h.elim
  | .loop k b, n + 1, h => by
    rw [Tr.wf] at h ⊢
    exact ⟨h.1, h.2.1, h.2.2.1, wfs_up' b n h.2.2.2⟩
theorem wfs_up' : ∀ (b : List Tr) (n : Nat), wfs b n → wfs b (n + 1)
  | [], n, _ => by rw [wfs]; trivial
  | t :: r, n, h => by
    rw [wfs] at h ⊢
    exact ⟨Tr.wf_up t n h.1, wfs_up' r n h.2⟩
end
theorem wfs_up {b : List Tr} {n : Nat} (h : wfs b n) : wfs b (n + 1) := wfs_up' b n h
end Lj
set_option Elab.async false
set_option linter.all false
set_option maxRecDepth 100000
set_option maxHeartbeats 1000000
namespace Lj
open PySem PySem.Spec PyProof.Rows L2
/-! ### zip of any two things that can be walked: each a feed -/
/-- an iterator at i with n things to give, as long as its source stands -/
structure Feed (i : Addr) (n : Nat) (f : Nat → Value → Prop) (St : Nat → Heap → Prop) (Src : Heap → Prop) : Prop where
  give : ∀ {prog : Program} {w : World} {A : Around} {E : Value → Shared → Prop} {s : Shared} {k : Nat} {Q : Value → Shared → Prop}, k < n → St k s.heap → Src s.heap → (∀ x h' tk, f k x → St (k + 1) h' → Heap.SameBut i s.heap h' → Q x { s with heap := h', toks := tk }) →
    wpAny (model prog w) A (Builtin.SmallTypes.nextOf (.ref i)) Q E s
  over : ∀ {prog : Program} {w : World} {A : Around} {E : Value → Shared → Prop} {s : Shared} {Q : Value → Shared → Prop}, A.handled = none → St n s.heap → Src s.heap → (∀ h' e tk, Heap.ExtBut i s.heap h' → (∃ o, h'.get? e = some o ∧ o.cls = .type "StopIteration") → E (.ref e) { s with heap := h', toks := tk }) →
    wpAny (model prog w) A (Builtin.SmallTypes.nextOf (.ref i)) Q E s
  stay : ∀ {k : Nat} {h h' : Heap}, St k h → (∀ o, h.get? i = some o → h'.get? i = some o) → St k h'
  obj : ∀ {k : Nat} {h : Heap}, St k h → ∃ o vs, h.get? i = some o ∧ o.data = .fields vs
theorem feed_list {i l : Addr} {its : Array Value} : Feed i its.size (fun k x => its[k]? = some x) (fun k h => h.IsListIter i l k) (fun h => h.IsList l its) where
  give := fun {_ _ _ _ s k _} hk st src q => wpAny_nextOf_list_item st src (Array.getElem?_eq_getElem hk) fun h' a b => q _ h' s.toks (Array.getElem?_eq_getElem hk) a b
  over := fun {_ _ _ _ s _} hh st src q => wpAny_nextOf_list_end hh st src (by simp) fun h' e a b => q h' e s.toks a b
  stay := fun ⟨o, e, r⟩ k => ⟨o, k o e, r⟩
  obj := fun ⟨o, e, _, d⟩ => ⟨o, _, e, d⟩
theorem feed_tup {i l : Addr} {its : Array Value} : Feed i its.size (fun k x => its[k]? = some x) (fun k h => h.IsTupleIter i l k) (fun h => h.IsTuple l its) where
  give := fun {_ _ _ _ s k _} hk st src q => RZ.nextOf_tuple_item st src (Array.getElem?_eq_getElem hk) fun h' a b => q _ h' s.toks (Array.getElem?_eq_getElem hk) a b
  over := fun {_ _ _ _ s _} hh st src q => RZ.nextOf_tuple_end hh st src (by simp) fun h' e a b => q h' e s.toks a b
  stay := fun ⟨o, e, r⟩ k => ⟨o, k o e, r⟩
  obj := fun ⟨o, e, _, d⟩ => ⟨o, _, e, d⟩
/-- the five objects of a zip are apart -/
structure Five (z I O a b : Addr) : Prop where
  Iz : I ≠ z
  Oz : O ≠ z
  az : a ≠ z
  bz : b ≠ z
  IO : I ≠ O
  Ia : I ≠ a
  Ib : I ≠ b
  Oa : O ≠ a
  Ob : O ≠ b
  ab : a ≠ b
/-- what a step of the zip leaves alone -/
def Beside (z O a b : Addr) (h h' : Heap) : Prop := ∀ c o, c ≠ z → c ≠ O → c ≠ a → c ≠ b → h.get? c = some o → h'.get? c = some o
section
variable {prog : Program} {w : World} {A : Around} {E : Value → Shared → Prop} {s : Shared} {z I O a b : Addr} {m n k : Nat} {f g : Nat → Value → Prop} {S1 S2 : Nat → Heap → Prop} {R1 R2 : Heap → Prop} {p q : Value}
theorem zf_give {Q : Value → Shared → Prop} (D : Five z I O a b) (F1 : Feed a m f S1 R1) (F2 : Feed b n g S2 R2) (r1 : ∀ h h', R1 h → Beside z O a b h h' → R1 h') (r2 : ∀ h h', R2 h → Beside z O a b h h' → R2 h')
    (zz : IsZip s.heap z I O .none) (zI : IsPair s.heap I (.ref a) (.ref b)) (zO : IsPair s.heap O p q) (s1 : S1 k s.heap) (s2 : S2 k s.heap) (q1 : R1 s.heap) (q2 : R2 s.heap) (km : k < m) (kn : k < n)
    (hQ : ∀ x y h' tk, f k x → g k y → IsZip h' z I O (rawInt s.heap.objs.size) → IsPair h' O x y → S1 (k + 1) h' → S2 (k + 1) h' → IsPair h' s.heap.objs.size x y → h'.objs.size = s.heap.objs.size + 1 → Beside z O a b s.heap h' → Q (.ref s.heap.objs.size) { s with heap := h', toks := tk }) :
    wpAny (model prog w) A (Builtin.«zip.__next__» ⟨[.ref z], []⟩) (fun fin s' => ∃ v, fin = .done (.ret v) ∧ Q v s') E s := by
  show wpAny _ _ (field (.ref z) 2 >>= _) _ _ _; refine wpAny_bind (wpAny_field zz rfl (x := .bool false) rfl ?_)
  show wpAny _ _ (field (.ref z) 3 >>= _) _ _ _; refine wpAny_bind (wpAny_field zz rfl (x := .ref I) rfl ?_)
  refine wpAny_bind (wpAny_seqItems zI rfl ?_)
  show wpAny _ _ (Builtin.SmallTypes.ownedTupleIsFree (.ref z) >>= _) _ _ _; refine wpAny_bind ?_
  unfold Builtin.SmallTypes.ownedTupleIsFree; refine wpAny_bind (wpAny_field zz rfl (x := .none) rfl (wpAny_pure ?_))
  simp only [if_true]; refine wpAny_bind (wpAny_rule (wpAny_bind (wpAny_field zz rfl (x := .ref O) rfl ?_)))
  refine wpAny_bind (wpAny_setField_rec zz (by simp) fun h1 z1 k1 => ?_)
  replace z1 : IsZip h1 z I O .ellipsis := z1
  refine wpAny_bind ?_
  simp only [List.zipIdx_cons, List.zipIdx_nil, List.forIn_cons, List.forIn_nil]; refine wpAny_bind (wpAny_bind (wpAny_onRaise ?_))
  show wpAny _ _ (Builtin.SmallTypes.nextOf (.ref a) >>= _) _ _ _
  have e1 : ∀ c o, c ≠ z → s.heap.get? c = some o → h1.get? c = some o := fun c o n e => k1.extBut _ _ n e
  refine wpAny_bind (F1.give km (F1.stay s1 fun o => e1 a o D.az) (r1 _ _ q1 fun c o n1 _ _ _ => e1 c o n1) fun x h2 t2 fx s12 k2 => wpAny_pure ?_)
  have e2 : ∀ c o, c ≠ a → h1.get? c = some o → h2.get? c = some o := fun c o n e => k2.extBut _ _ n e
  have O2 : IsPair h2 O p q := e2 _ _ D.Oa (e1 _ _ D.Oz zO)
  refine wpAny_bind (wpAny_seqItems O2 rfl (wpAny_bind (wpAny_updateSeq_pair O2 fun h3 O3 k3 => ?_)))
  replace O3 : IsPair h3 O x q := O3
  have e3 : ∀ c o, c ≠ O → h2.get? c = some o → h3.get? c = some o := fun c o n e => k3.extBut _ _ n e
  refine wpAny_bind (wpAny_letGo (wpAny_pure (wpAny_bind (wpAny_bind (wpAny_onRaise ?_)))))
  show wpAny _ _ (Builtin.SmallTypes.nextOf (.ref b) >>= _) _ _ _
  refine wpAny_bind (F2.give kn (F2.stay s2 fun o e => e3 b o D.Ob.symm (e2 b o D.ab.symm (e1 b o D.bz e))) (r2 _ _ q2 fun c o n1 n2 n3 _ e => e3 c o n2 (e2 c o n3 (e1 c o n1 e))) fun y h4 t4 gy s24 k4 => wpAny_pure ?_)
  have e4 : ∀ c o, c ≠ b → h3.get? c = some o → h4.get? c = some o := fun c o n e => k4.extBut _ _ n e
  have O4 : IsPair h4 O x q := e4 _ _ D.Ob O3
  refine wpAny_bind (wpAny_seqItems O4 rfl (wpAny_bind (wpAny_updateSeq_pair O4 fun h5 O5 k5 => ?_)))
  replace O5 : IsPair h5 O x y := O5
  have e5 : ∀ c o, c ≠ O → h4.get? c = some o → h5.get? c = some o := fun c o n e => k5.extBut _ _ n e
  refine wpAny_bind (wpAny_letGo (wpAny_pure (wpAny_pure (wpAny_bind (wpAny_seqItems O5 rfl (wpAny_bind (wpAny_newTuple ?_)))))))
  have sz : h5.objs.size = s.heap.objs.size := by rw [k5.1, k4.1, k3.1, k2.1, k1.1]
  have z5 : IsZip h5 z I O .ellipsis := e5 _ _ D.Oz.symm (e4 _ _ D.bz.symm (e3 _ _ D.Oz.symm (e2 _ _ D.az.symm z1)))
  have b5 : Beside z O a b s.heap h5 := fun c o n1 n2 n3 n4 e => e5 c o n2 (e4 c o n4 (e3 c o n2 (e2 c o n3 (e1 c o n1 e))))
  have s15 : S1 (k + 1) h5 := F1.stay s12 fun o e => e5 a o D.Oa.symm (e4 a o D.ab (e3 a o D.Oa.symm e))
  have s25 : S2 (k + 1) h5 := F2.stay s24 fun o e => e5 b o D.Ob.symm e
  have zl : z < h5.objs.size := Heap.lt_size z5
  show wpAny _ _ (Builtin.SmallTypes.ownedTupleHandOut (.ref z) (.ref h5.objs.size) >>= _) _ _ _
  refine wpAny_bind ?_; unfold Builtin.SmallTypes.ownedTupleHandOut
  refine wpAny_bind (wpAny_setField_rec (show IsZip (h5.push { cls := .type "tuple", data := .seq #[x, y] }) z I O .ellipsis from Heap.get?_push_of_some _ z5) (by simp) fun h7 z7 k7 => ?_)
  replace z7 : IsZip h7 z I O (rawInt h5.objs.size) := z7
  refine wpAny_setField_rec z7 (by simp) fun h8 z8 k8 => ?_
  replace z8 : IsZip h8 z I O (rawInt h5.objs.size) := z8
  have e8 : ∀ c o, c ≠ z → h5.get? c = some o → h8.get? c = some o := fun c o n e => k8.extBut _ _ n (k7.extBut _ _ n (Heap.get?_push_of_some _ e))
  have T8 : IsPair h8 h5.objs.size x y := k8.extBut _ _ (Nat.ne_of_gt zl) (k7.extBut _ _ (Nat.ne_of_gt zl) (Heap.get?_push_size _ rfl))
  have y8 : h8.objs.size = h5.objs.size + 1 := by rw [k8.1, k7.1, Heap.size_push]
  rw [sz] at z8 T8 y8
  refine wpAny_pure ⟨_, rfl, ?_⟩
  show Q (.ref h5.objs.size) _
  rw [sz]
  exact hQ x y h8 t4 fx gy z8 (e8 _ _ D.Oz O5) (F1.stay s15 fun o => e8 a o D.az) (F2.stay s25 fun o => e8 b o D.bz) T8 y8 fun c o n1 n2 n3 n4 e => e8 c o n1 (b5 c o n1 n2 n3 n4 e)
theorem zf_over {Q : Fin → Shared → Prop} (hh : A.handled = none) (D : Five z I O a b) (F1 : Feed a m f S1 R1) (F2 : Feed b n g S2 R2) (r1 : ∀ h h', R1 h → Beside z O a b h h' → R1 h') (r2 : ∀ h h', R2 h → Beside z O a b h h' → R2 h')
    (zz : IsZip s.heap z I O .none) (zI : IsPair s.heap I (.ref a) (.ref b)) (zO : IsPair s.heap O p q) (s1 : S1 k s.heap) (s2 : S2 k s.heap) (q1 : R1 s.heap) (q2 : R2 s.heap) (he : k = m ∨ (k < m ∧ k = n))
    (hE : ∀ h' e tk, Beside z O a b s.heap h' → (∃ o, h'.get? e = some o ∧ o.cls = .type "StopIteration") → E (.ref e) { s with heap := h', toks := tk }) :
    wpAny (model prog w) A (Builtin.«zip.__next__» ⟨[.ref z], []⟩) Q E s := by
  show wpAny _ _ (field (.ref z) 2 >>= _) _ _ _; refine wpAny_bind (wpAny_field zz rfl (x := .bool false) rfl ?_)
  show wpAny _ _ (field (.ref z) 3 >>= _) _ _ _; refine wpAny_bind (wpAny_field zz rfl (x := .ref I) rfl ?_)
  refine wpAny_bind (wpAny_seqItems zI rfl ?_)
  show wpAny _ _ (Builtin.SmallTypes.ownedTupleIsFree (.ref z) >>= _) _ _ _; refine wpAny_bind ?_
  unfold Builtin.SmallTypes.ownedTupleIsFree; refine wpAny_bind (wpAny_field zz rfl (x := .none) rfl (wpAny_pure ?_))
  simp only [if_true]; refine wpAny_bind (wpAny_rule (wpAny_bind (wpAny_field zz rfl (x := .ref O) rfl ?_)))
  refine wpAny_bind (wpAny_setField_rec zz (by simp) fun h1 z1 k1 => ?_)
  replace z1 : IsZip h1 z I O .ellipsis := z1
  refine wpAny_bind ?_
  simp only [List.zipIdx_cons, List.zipIdx_nil, List.forIn_cons, List.forIn_nil]; refine wpAny_bind (wpAny_bind (wpAny_onRaise ?_))
  show wpAny _ _ (Builtin.SmallTypes.nextOf (.ref a) >>= _) _ _ _
  have e1 : ∀ c o, c ≠ z → s.heap.get? c = some o → h1.get? c = some o := fun c o n e => k1.extBut _ _ n e
  have s11 := F1.stay s1 fun o => e1 a o D.az
  have q11 := r1 _ _ q1 fun c o n1 _ _ _ => e1 c o n1
  have fin : ∀ {h2 : Heap} {t2 : Nat} {e : Addr}, IsZip h2 z I O .ellipsis → Beside z O a b s.heap h2 → (∃ o, h2.get? e = some o ∧ o.cls = .type "StopIteration") → wpAny (model prog w) A (setField (.ref z) 0 .none) (fun _ s' => E (.ref e) s') E { s with heap := h2, toks := t2 } := fun {h2 t2 e} z2 b2 ⟨oe, g, c⟩ => by
    have ne : e ≠ z := fun y => by subst y; rw [z2] at g; cases g; simp at c
    exact wpAny_setField_rec z2 (by simp) fun h3 _ k3 => hE h3 e t2 (fun c o n1 n2 n3 n4 y => k3.extBut _ _ n1 (b2 c o n1 n2 n3 n4 y)) ⟨oe, k3.extBut _ _ ne g, c⟩
  rcases he with rfl | ⟨km, rfl⟩
  · refine wpAny_bind (F1.over hh s11 q11 fun h2 e t2 k2 ex => ?_)
    exact fin (k2 _ _ D.az.symm z1) (fun c o n1 _ n3 _ y => k2 _ _ n3 (e1 c o n1 y)) ex
  · refine wpAny_bind (F1.give km s11 q11 fun x h2 t2 fx s12 k2 => wpAny_pure ?_)
    have e2 : ∀ c o, c ≠ a → h1.get? c = some o → h2.get? c = some o := fun c o n e => k2.extBut _ _ n e
    have O2 : IsPair h2 O p q := e2 _ _ D.Oa (e1 _ _ D.Oz zO)
    refine wpAny_bind (wpAny_seqItems O2 rfl (wpAny_bind (wpAny_updateSeq_pair O2 fun h3 O3 k3 => ?_)))
    have e3 : ∀ c o, c ≠ O → h2.get? c = some o → h3.get? c = some o := fun c o n e => k3.extBut _ _ n e
    refine wpAny_bind (wpAny_letGo (wpAny_pure (wpAny_bind (wpAny_bind (wpAny_onRaise ?_)))))
    show wpAny _ _ (Builtin.SmallTypes.nextOf (.ref b) >>= _) _ _ _
    refine wpAny_bind (F2.over hh (F2.stay s2 fun o e => e3 b o D.Ob.symm (e2 b o D.ab.symm (e1 b o D.bz e))) (r2 _ _ q2 fun c o n1 n2 n3 _ e => e3 c o n2 (e2 c o n3 (e1 c o n1 e))) fun h4 e t4 k4 ex => ?_)
    exact fin (k4 _ _ D.bz.symm (e3 _ _ D.Oz.symm (e2 _ _ D.az.symm z1))) (fun c o n1 n2 n3 n4 y => k4 _ _ n4 (e3 c o n2 (e2 c o n3 (e1 c o n1 y)))) ex
theorem zf_next {Q : Option Value → Shared → Prop} (D : Five z I O a b) (F1 : Feed a m f S1 R1) (F2 : Feed b n g S2 R2) (r1 : ∀ h h', R1 h → Beside z O a b h h' → R1 h') (r2 : ∀ h h', R2 h → Beside z O a b h h' → R2 h')
    (zz : IsZip s.heap z I O .none) (zI : IsPair s.heap I (.ref a) (.ref b)) (zO : IsPair s.heap O p q) (s1 : S1 k s.heap) (s2 : S2 k s.heap) (q1 : R1 s.heap) (q2 : R2 s.heap) (km : k < m) (kn : k < n)
    (hQ : ∀ x y h' tk, f k x → g k y → IsZip h' z I O (rawInt s.heap.objs.size) → IsPair h' O x y → S1 (k + 1) h' → S2 (k + 1) h' → IsPair h' s.heap.objs.size x y → h'.objs.size = s.heap.objs.size + 1 → Beside z O a b s.heap h' → Q (some (.ref s.heap.objs.size)) { s with heap := h', toks := tk }) :
    wpAny (model prog w) A (pyNext (.ref z)) Q E s := by
  have ty : s.TypeIs (.ref z) "zip" := ⟨_, zz, rfl⟩
  unfold pyNext; refine wpAny_bind (wpAny_attempt (wpAny_callSpecial?_slot (name := Str.ofString "__next__") ty F.slot_zip_next (wpAny_call_entry F.slot_zip_next ty F.entry_zip_next (zf_give D F1 F2 r1 r2 zz zI zO s1 s2 q1 q2 km kn fun x y h' tk b1 b2 b3 b4 b5 b6 b7 b8 b9 => ?_) (F.args_zip_next_1 _))))
  exact wpAny_pure (hQ x y h' tk b1 b2 b3 b4 b5 b6 b7 b8 b9)
theorem zf_done {Q : Option Value → Shared → Prop} (hh : A.handled = none) (D : Five z I O a b) (F1 : Feed a m f S1 R1) (F2 : Feed b n g S2 R2) (r1 : ∀ h h', R1 h → Beside z O a b h h' → R1 h') (r2 : ∀ h h', R2 h → Beside z O a b h h' → R2 h')
    (zz : IsZip s.heap z I O .none) (zI : IsPair s.heap I (.ref a) (.ref b)) (zO : IsPair s.heap O p q) (s1 : S1 k s.heap) (s2 : S2 k s.heap) (q1 : R1 s.heap) (q2 : R2 s.heap) (he : k = m ∨ (k < m ∧ k = n))
    (hQ : ∀ h' tk, Beside z O a b s.heap h' → Q none { s with heap := h', toks := tk }) : wpAny (model prog w) A (pyNext (.ref z)) Q E s := by
  have ty : s.TypeIs (.ref z) "zip" := ⟨_, zz, rfl⟩
  unfold pyNext; refine wpAny_bind (wpAny_attempt (wpAny_callSpecial?_slot (name := Str.ofString "__next__") ty F.slot_zip_next (wpAny_call_entry F.slot_zip_next ty F.entry_zip_next (zf_over hh D F1 F2 r1 r2 zz zI zO s1 s2 q1 q2 he fun h' e tk k ⟨o, g, c⟩ => ?_) (F.args_zip_next_1 _))))
  exact wpAny_bind (wpAny_isInstance (T := "StopIteration") (b := true) ⟨o, g, c⟩ isSubtype_stop (wpAny_pure (hQ _ _ k)))
end
end Lj
set_option Elab.async false
set_option linter.all false
set_option maxRecDepth 100000
set_option maxHeartbeats 1000000
namespace Lj
open PySem PySem.Spec PyProof.Rows L2
/-- something that can be walked: St tells its iterator, G that it stands, ls where, xs what it gives -/
structure Sr (P : Program) (w : World) (K : PySem.W.Frag) (St : Addr → Nat → Heap → Prop) (G : Hp → Prop) (ls : List Addr) (xs : List V) : Prop where
  feed : ∀ {X : Cx} {pins : List (Addr × Obj)} {σ : L2.St} {H : Hp} {s : Shared}, X.prog = P → X.w = w → X.K = K → Inv X pins σ H s → G H → ∀ i : Addr, ∃ (f : Nat → Value → Prop) (Src : Heap → Prop), Feed i xs.length f (St i) Src ∧ Src s.heap ∧
    (∀ h h', Src h → (∀ l ∈ ls, ∀ o, h.get? l = some o → h'.get? l = some o) → Src h') ∧ ∀ k u, f k u → ∃ x, xs[k]? = some x ∧ RelV x u
  stay : ∀ {i : Addr} {k : Nat} {h h' : Heap}, St i k h → (∀ o, h.get? i = some o → h'.get? i = some o) → St i k h'
  obj : ∀ {i : Addr} {k : Nat} {h : Heap}, St i k h → ∃ o vs, h.get? i = some o ∧ o.data = .fields vs
theorem sr_list {P : Program} {w : World} {K : PySem.W.Frag} {a : Addr} {xs : List V} : Sr P w K (fun i k h => h.IsListIter i a k) (fun H => SqL K H a xs) [a] xs where
  feed := fun {X pins σ H s} e1 e2 e3 I g i => by
    subst e3
    obtain ⟨its, rv, pl, _⟩ := I.list g
    refine ⟨fun k x => its.toArray[k]? = some x, fun h => h.IsList a its.toArray, ?_, pl.isList, fun h h' q k => ?_, fun k u e => ?_⟩
    · have z := feed_list (i := i) (l := a) (its := its.toArray)
      rw [List.size_toArray, ← rv.length] at z
      exact z
    · obtain ⟨o, ho, r⟩ := q
      exact ⟨o, k a List.mem_cons_self o ho, r⟩
    · have e : its.toArray[k]? = some u := e
      rw [List.getElem?_toArray] at e
      have hk : k < xs.length := by rw [rv.length]; exact (List.getElem?_eq_some_iff.mp e).1
      obtain ⟨u', hu, ru⟩ := rv.get (List.getElem?_eq_getElem hk)
      rw [e] at hu
      cases hu
      exact ⟨_, List.getElem?_eq_getElem hk, ru⟩
  stay := fun ⟨o, e, r⟩ k => ⟨o, k o e, r⟩
  obj := fun ⟨o, e, _, d⟩ => ⟨o, _, e, d⟩
theorem sr_tup {P : Program} {w : World} {K : PySem.W.Frag} {a : Addr} {xs : List V} : Sr P w K (fun i k h => h.IsTupleIter i a k) (fun H => SqT K H a xs) [a] xs where
  feed := fun {X pins σ H s} e1 e2 e3 I g i => by
    subst e3
    obtain ⟨its, rv, pl, _⟩ := I.tuple g
    refine ⟨fun k x => its.toArray[k]? = some x, fun h => h.IsTuple a its.toArray, ?_, pl, fun h h' q k => ?_, fun k u e => ?_⟩
    · have z := feed_tup (i := i) (l := a) (its := its.toArray)
      rw [List.size_toArray, ← rv.length] at z
      exact z
    · obtain ⟨o, ho, r⟩ := q
      exact ⟨o, k a List.mem_cons_self o ho, r⟩
    · have e : its.toArray[k]? = some u := e
      rw [List.getElem?_toArray] at e
      have hk : k < xs.length := by rw [rv.length]; exact (List.getElem?_eq_some_iff.mp e).1
      obtain ⟨u', hu, ru⟩ := rv.get (List.getElem?_eq_getElem hk)
      rw [e] at hu
      cases hu
      exact ⟨_, List.getElem?_eq_getElem hk, ru⟩
  stay := fun ⟨o, e, r⟩ k => ⟨o, k o e, r⟩
  obj := fun ⟨o, e, _, d⟩ => ⟨o, _, e, d⟩
/-- pairs of the things of two sources, as long as both stand -/
def ItF (n : Nat) (G : Hp → Prop) (xs ys : List V) : It :=
  ⟨fun i H => i < n ∧ G H, fun i H v H' => ∃ T x y, v = .ref T ∧ H T = none ∧ H' = upd H T (.tup [x, y]) ∧ xs[i]? = some x ∧ ys[i]? = some y, fun i H => i = n ∧ G H⟩
theorem walk_F {n : Nat} {G : Hp → Prop} {xs ys : List V} : Walk (ItF n G xs ys) n G (YPair (fun i => xs[i]?) (fun i => ys[i]?)) :=
  ⟨fun i _ hi q => ⟨hi, q⟩, fun _ q => ⟨rfl, q⟩, fun i H v H' _ q y => y⟩
def zipTn (S1 S2 : Addr → Nat → Heap → Prop) (z I O a b : Addr) : Nat → Heap → Prop := fun i h => IsZip h z I O .none ∧ IsPair h I (.ref a) (.ref b) ∧ (∃ x y, IsPair h O x y) ∧ S1 a i h ∧ S2 b i h
theorem turn_F {P : Program} {w : World} {K : PySem.W.Frag} {elts : List Expr} {kk : Nat} {tpos : Pos} {z I O a b : Addr} {S1 S2 : Addr → Nat → Heap → Prop} {G1 G2 : Hp → Prop} {l1 l2 : List Addr} {xs ys : List V} (D : Five z I O a b) (F1 : Sr P w K S1 G1 l1 xs) (F2 : Sr P w K S2 G2 l2 ys)
    (n1 : ∀ l ∈ l1, l ≠ z ∧ l ≠ O ∧ l ≠ a ∧ l ≠ b) (n2 : ∀ l ∈ l2, l ≠ z ∧ l ≠ O ∧ l ≠ a ∧ l ≠ b) : Turn P w K (.Tuple elts kk tpos) (ItF (min xs.length ys.length) (fun H => G1 H ∧ G2 H) xs ys) [z, I, O, a, b] z (zipTn S1 S2 z I O a b) where
  mem := List.mem_cons_self
  obj := fun i h st c hc => by
    obtain ⟨q1, q2, ⟨x, y, q3⟩, q4, q5⟩ := st
    obtain ⟨o4, v4, e4, d4⟩ := F1.obj q4
    obtain ⟨o5, v5, e5, d5⟩ := F2.obj q5
    simp only [List.mem_cons, List.not_mem_nil, or_false] at hc
    rcases hc with rfl | rfl | rfl | rfl | rfl
    · exact ⟨_, q1, fun v e => nomatch e⟩
    · exact ⟨_, q2, fun v e => nomatch e⟩
    · exact ⟨_, q3, fun v e => nomatch e⟩
    · exact ⟨o4, e4, fun v e => by rw [d4] at e; cases e⟩
    · exact ⟨o5, e5, fun v e => by rw [d5] at e; cases e⟩
  keep := fun i h h' st k => by
    obtain ⟨q1, q2, ⟨x, y, q3⟩, q4, q5⟩ := st
    exact ⟨k z (by simp) _ q1, k I (by simp) _ q2, ⟨x, y, k O (by simp) _ q3⟩, F1.stay q4 fun o e => k a (by simp) o e, F2.stay q5 fun o e => k b (by simp) o e⟩
  item := by
    intro X hP hw hK hc i pins s σ H E Iv hf st hg
    obtain ⟨q1, q2, ⟨x0, y0, q3⟩, q4, q5⟩ := st
    obtain ⟨hi, g1, g2⟩ := hg
    obtain ⟨f, S, fd, sr, ss, fr⟩ := F1.feed hP hw hK Iv g1 a
    obtain ⟨g, S', fd', sr', ss', fr'⟩ := F2.feed hP hw hK Iv g2 b
    subst hP hw hK
    have zl : z < s.heap.objs.size := Heap.lt_size q1
    have st1 : ∀ h h', S h → Beside z O a b h h' → S h' := fun h h' q k => ss h h' q fun l m o e => k l o (n1 l m).1 (n1 l m).2.1 (n1 l m).2.2.1 (n1 l m).2.2.2 e
    have st2 : ∀ h h', S' h → Beside z O a b h h' → S' h' := fun h h' q k => ss' h h' q fun l m o e => k l o (n2 l m).1 (n2 l m).2.1 (n2 l m).2.2.1 (n2 l m).2.2.2 e
    refine zf_next D fd fd' st1 st2 q1 q2 q3 q4 q5 sr sr' (by omega) (by omega) fun u v h' tk fu gv z' O' s1' s2' T sz bes => ?_
    obtain ⟨x, hx, ru⟩ := fr i u fu
    obtain ⟨y, hy, rv⟩ := fr' i v gv
    refine ⟨_, rfl, wpAny_letOwnedTupleGo_zip (s := { s with heap := h', toks := tk }) z' fun h2 z2 sb => ?_⟩
    have T2 : h2.get? s.heap.objs.size = some { cls := .type "tuple", data := .seq #[u, v] } := (sb.2 _ (Nat.ne_of_gt zl)).trans T
    have new : ObjOk X.prog X.w (upd H s.heap.objs.size (.tup [x, y])) h2 s.heap.objs.size (.tup [x, y]) := ⟨by show 2 ≤ sizeLine; decide, [u, v], .cons ru (.cons rv .nil), ⟨_, T2, rfl, _, rfl⟩⟩
    have I1 : Inv X pins σ (upd H s.heap.objs.size (.tup [x, y])) { s with heap := h2, toks := tk } := Iv.turnedNew (t' := tk) (ch := [z, I, O, a, b]) (fun c o hb e => by
      simp only [List.mem_cons, List.not_mem_nil, or_false, not_or] at hb
      exact (sb.2 c hb.1).trans (bes c o hb.1 hb.2.2.1 hb.2.2.2.1 hb.2.2.2.2 e)) hf (Nat.le_refl _) new
    refine ⟨.ref s.heap.objs.size, _, I1, rfl, ⟨_, x, y, rfl, Iv.hok.fresh (Nat.le_refl _), rfl, hx, hy⟩, ⟨z2, ?_, ⟨u, v, ?_⟩, ?_, ?_⟩, fun c hcm => ?_⟩
    · exact (sb.2 _ D.Iz).trans (bes _ _ D.Iz D.IO D.Ia D.Ib q2)
    · exact (sb.2 _ D.Oz).trans O'
    · exact F1.stay s1' fun o e => (sb.2 _ D.az).trans e
    · exact F2.stay s2' fun o e => (sb.2 _ D.bz).trans e
    · have lt : c < s.heap.objs.size := by
        obtain ⟨o4, _, e4, _⟩ := F1.obj q4
        obtain ⟨o5, _, e5, _⟩ := F2.obj q5
        simp only [List.mem_cons, List.not_mem_nil, or_false] at hcm
        rcases hcm with rfl | rfl | rfl | rfl | rfl
        · exact zl
        · exact Heap.lt_size q2
        · exact Heap.lt_size q3
        · exact Heap.lt_size e4
        · exact Heap.lt_size e5
      rw [upd_ne (Nat.ne_of_lt lt)]
      exact (hf c hcm).1
  done := by
    intro X hP hw hK hc i pins s σ H E Iv hf st hg
    obtain ⟨q1, q2, ⟨x0, y0, q3⟩, q4, q5⟩ := st
    obtain ⟨hi, g1, g2⟩ := hg
    obtain ⟨f, S, fd, sr, ss, fr⟩ := F1.feed hP hw hK Iv g1 a
    obtain ⟨g, S', fd', sr', ss', fr'⟩ := F2.feed hP hw hK Iv g2 b
    subst hP hw hK
    have st1 : ∀ h h', S h → Beside z O a b h h' → S h' := fun h h' q k => ss h h' q fun l m o e => k l o (n1 l m).1 (n1 l m).2.1 (n1 l m).2.2.1 (n1 l m).2.2.2 e
    have st2 : ∀ h h', S' h → Beside z O a b h h' → S' h' := fun h h' q k => ss' h h' q fun l m o e => k l o (n2 l m).1 (n2 l m).2.1 (n2 l m).2.2.1 (n2 l m).2.2.2 e
    refine zf_done (Iv.ok.hd hc) D fd fd' st1 st2 q1 q2 q3 q4 q5 sr sr' (by omega) fun h' tk bes => ⟨rfl, Iv.turnedL (t' := tk) (ch := [z, I, O, a, b]) (fun c o hb e => ?_) hf⟩
    simp only [List.mem_cons, List.not_mem_nil, or_false, not_or] at hb
    exact bes c o hb.1 hb.2.2.1 hb.2.2.2.1 hb.2.2.2.2 e
  self := fun A i s Q E st h => wpAny_pyIter_zip st.1 h
/-! ### zip(list, tuple): its making -/
abbrev zh (h : Heap) (p q : Obj) (a b : Nat) : Heap := (((((h.push p).push q).push { cls := .type "tuple", data := .seq #[.ref a, .ref b] }).push { cls := .type "tuple", data := .seq #[.none, .none] })).push { cls := .type "zip", data := .fields #[.none, .bool false, .bool false, .ref (a + 2), .ref (a + 3)] }
abbrev oLi (l : Addr) : Obj := { cls := .type "list_iterator", data := .fields #[.ref l, .int 0 0] }
abbrev oTi (l : Addr) : Obj := { cls := .type "tuple_iterator", data := .fields #[.ref l, .int 0 0] }
theorem five_new (n : Nat) : Five (n + 4) (n + 2) (n + 3) n (n + 1) := by
  have z : ∀ i j : Nat, i ≠ j → n + i ≠ n + j := fun i j h e => h (Nat.add_left_cancel e)
  exact ⟨z 2 4 (by decide), z 3 4 (by decide), z 0 4 (by decide), z 1 4 (by decide), z 2 3 (by decide), z 2 0 (by decide), z 2 1 (by decide), z 3 0 (by decide), z 3 1 (by decide), z 0 1 (by decide)⟩
theorem new_LT (l1 l2 : Addr) (xs ys : Array Value) : Meets (Builtin.«zip.__new__» ⟨[.type "zip", .ref l1, .ref l2], []⟩) (fun _ R s => s.heap.IsList l1 xs ∧ s.heap.IsTuple l2 ys ∧
      R (.ok (.ret (.ref (s.heap.objs.size + 4)))) { s with heap := zh s.heap (oLi l1) (oTi l2) s.heap.objs.size (s.heap.objs.size + 1) }) :=
  .of_wp fun prog w A R s h => by
    obtain ⟨hp, g, d, tk, os⟩ := s; obtain ⟨t1, t2, h⟩ := h
    have sub := sub_zip
    have T1 : Heap.IsList (Shared.heap ⟨hp, g, d, tk, os⟩) l1 xs := t1
    have T2 : Heap.IsTuple (Shared.heap ⟨hp.push { cls := .type "list_iterator", data := .fields #[.ref l1, .int 0 0] }, g, d, tk, os⟩) l2 ys := Heap.IsTuple.push t2 _
    wp_walk using wpAny_pyIter_list T1, wpAny_pyIter_tuple T2
    refine ⟨_, rfl, ?_⟩
    simp only [Heap.size_push]
    exact h
theorem zh_sz (h : Heap) (p q : Obj) (hp : p.isFreed = false := by rfl) (hq : q.isFreed = false := by rfl) : (zh h p q h.objs.size (h.objs.size + 1)).get? h.objs.size = some p ∧ (zh h p q h.objs.size (h.objs.size + 1)).get? (h.objs.size + 1) = some q ∧
    IsPair (zh h p q h.objs.size (h.objs.size + 1)) (h.objs.size + 2) (.ref h.objs.size) (.ref (h.objs.size + 1)) ∧ IsPair (zh h p q h.objs.size (h.objs.size + 1)) (h.objs.size + 3) .none .none ∧ IsZip (zh h p q h.objs.size (h.objs.size + 1)) (h.objs.size + 4) (h.objs.size + 2) (h.objs.size + 3) .none := by
  have z1 : (h.push p).objs.size = h.objs.size + 1 := Heap.size_push ..
  have z2 : ((h.push p).push q).objs.size = h.objs.size + 2 := by rw [Heap.size_push, z1]
  have z3 : (((h.push p).push q).push { cls := .type "tuple", data := .seq #[.ref h.objs.size, .ref (h.objs.size + 1)] }).objs.size = h.objs.size + 3 := by rw [Heap.size_push, z2]
  have z4 : ((((h.push p).push q).push { cls := .type "tuple", data := .seq #[.ref h.objs.size, .ref (h.objs.size + 1)] }).push { cls := .type "tuple", data := .seq #[.none, .none] }).objs.size = h.objs.size + 4 := by rw [Heap.size_push, z3]
  have up : ∀ {h : Heap} {c : Addr} {o : Obj} (x : Obj), h.get? c = some o → (h.push x).get? c = some o := fun x e => Heap.get?_push_of_some x e
  refine ⟨up _ (up _ (up _ (up _ (Heap.get?_push_size h hp)))), ?_, ?_, ?_, ?_⟩
  · have e := Heap.get?_push_size (h.push p) hq
    rw [z1] at e
    exact up _ (up _ (up _ e))
  · have e := Heap.get?_push_size ((h.push p).push q) (o := { cls := .type "tuple", data := .seq #[.ref h.objs.size, .ref (h.objs.size + 1)] }) rfl
    rw [z2] at e
    exact up _ (up _ e)
  · have e := Heap.get?_push_size (((h.push p).push q).push { cls := .type "tuple", data := .seq #[.ref h.objs.size, .ref (h.objs.size + 1)] }) (o := { cls := .type "tuple", data := .seq #[.none, .none] }) rfl
    rw [z3] at e
    exact up _ e
  · have e := Heap.get?_push_size ((((h.push p).push q).push { cls := .type "tuple", data := .seq #[.ref h.objs.size, .ref (h.objs.size + 1)] }).push { cls := .type "tuple", data := .seq #[.none, .none] }) (o := { cls := .type "zip", data := .fields #[.none, .bool false, .bool false, .ref (h.objs.size + 2), .ref (h.objs.size + 3)] }) rfl
    rw [z4] at e
    exact e
def iZipLT (K : PySem.W.Frag) (ta : TA) : TI := fun σ H R => ta σ H fun vs H1 => ∃ (a b : Addr) (xs ys : List V), vs = [.ref a, .ref b] ∧ SqL K H1 a xs ∧ SqT K H1 b ys ∧ R (ItF (min xs.length ys.length) (fun H => SqL K H a xs ∧ SqT K H b ys) xs ys) H1
/-- zip(list, tuple) -/
theorem pi_zipLT {X : Cx} {e e2 : Expr} {ta : TA} {p pos tpos : Pos} {elts : List Expr} {kk : Nat} (hg : Gl X "zip") (hm : X.mg "zip" = none) (ha : PA X [e, e2] ta)
    (hs : starEach [e, e2] X.env = (false, eval e X.env) :: starEach [e2] X.env := by rfl) (hpl : (backTo pos (starEach [e2] X.env)).any (·.1) = false := by rfl) :
    PI X (.Tuple elts kk tpos) (.Call (.Name "zip" p) [e, e2] [] pos) (iZipLT X.K ta) := by
  refine ⟨fun pins s σ H R I h => Call_ (ld_blt I hg hm PyProof.Rows.boot_zip (PyProof.Rows.callWith_type1 (thn (ha.run pos pins s σ H _ I h) fun us s1 ⟨vs, H1, I1, r1, a, b, xs, ys, ex, g1, g2, q⟩ => ?_) hs hpl))⟩
  subst ex
  obtain ⟨u1, u2, rfl, ra, rb⟩ := r1.two
  cases ra
  cases rb
  obtain ⟨its, rv, p1, _⟩ := I1.list g1
  obtain ⟨its2, rv2, p2, _⟩ := I1.tuple g2
  have al : a < s1.heap.objs.size := p1.lt
  have bl : b < s1.heap.objs.size := by
    obtain ⟨o, ho, _⟩ := p2
    exact Heap.lt_size ho
  refine callType_new F.called_zip (by decide) (F.typeCall_zip_2 _ _) (F.newCall_zip_2 _ _) (fun obj => F.args_object_init_3 obj _ _) F.entry_zip_new (new_LT a b its.toArray its2.toArray) ⟨p1.isList, p2, ?_⟩
  obtain ⟨f1, f2, f3, f4, f5⟩ := zh_sz s1.heap (oLi a) (oTi b)
  have keep : ∀ c o, s1.heap.get? c = some o → (zh s1.heap (oLi a) (oTi b) s1.heap.objs.size (s1.heap.objs.size + 1)).get? c = some o := fun c o e => Heap.get?_push_of_some _ (Heap.get?_push_of_some _ (Heap.get?_push_of_some _ (Heap.get?_push_of_some _ (Heap.get?_push_of_some _ e))))
  refine ⟨⟨_, f5, rfl⟩, wpAny_pyIter_zip f5 ?_⟩
  have I2 : Inv X pins σ H1 { s1 with heap := zh s1.heap (oLi a) (oTi b) s1.heap.objs.size (s1.heap.objs.size + 1) } := I1.kept (t' := s1.toks) keep
  have ap : ∀ {l : Addr}, l < s1.heap.objs.size → l ≠ s1.heap.objs.size + 4 ∧ l ≠ s1.heap.objs.size + 3 ∧ l ≠ s1.heap.objs.size ∧ l ≠ s1.heap.objs.size + 1 := fun {l} h =>
    ⟨Nat.ne_of_lt (Nat.lt_add_right _ h), Nat.ne_of_lt (Nat.lt_add_right _ h), Nat.ne_of_lt h, Nat.ne_of_lt (Nat.lt_add_right _ h)⟩
  refine ⟨s1.heap.objs.size + 4, [s1.heap.objs.size + 4, s1.heap.objs.size + 2, s1.heap.objs.size + 3, s1.heap.objs.size, s1.heap.objs.size + 1], _, _, H1, rfl, I2, turn_F (five_new s1.heap.objs.size) (sr_list (a := a) (xs := xs)) (sr_tup (a := b) (xs := ys)) (fun l m => by rw [List.mem_singleton.mp m]; exact ap al) (fun l m => by rw [List.mem_singleton.mp m]; exact ap bl), ⟨f5, f3, ⟨_, _, f4⟩, ⟨_, f1, rfl, rfl⟩, ⟨_, f2, rfl, rfl⟩⟩, fun c hcm => ?_, q⟩
  have le : s1.heap.objs.size ≤ c := by
    simp only [List.mem_cons, List.not_mem_nil, or_false] at hcm
    rcases hcm with rfl | rfl | rfl | rfl | rfl
    · exact Nat.le_add_right _ _
    · exact Nat.le_add_right _ _
    · exact Nat.le_add_right _ _
    · exact Nat.le_refl _
    · exact Nat.le_add_right _ _
  exact I1.fpOk le (I1.hok.fresh le)
end Lj
set_option linter.all false
namespace Lj
/-! ### rows over the integers modulo p: combinations, spans, dimensions -/
abbrev Row := Nat → Int
def comb : List Int → List Row → Nat → Int
  | w :: ws, r :: R, i => w * r i + comb ws R i
  | _, _, _ => 0
/-- x is, in the places below L, a combination of R -/
def InSp (p : Int) (L : Nat) (R : List Row) (x : Row) : Prop := ∃ ws, ∀ i, i < L → p ∣ x i - comb ws R i
theorem comb_nil (ws : List Int) (i : Nat) : comb ws [] i = 0 := by cases ws <;> rfl
theorem comb_nilL (R : List Row) (i : Nat) : comb [] R i = 0 := by cases R <;> rfl
def scal (c : Int) : List Int → List Int
  | [] => []
  | w :: ws => c * w :: scal c ws
theorem comb_scal (c : Int) : ∀ (ws : List Int) (R : List Row) (i : Nat), comb (scal c ws) R i = c * comb ws R i
  | [], R, i => by rw [scal, comb_nilL, Int.mul_zero]
  | w :: ws, [], i => by rw [comb_nil, comb_nil, Int.mul_zero]
  | w :: ws, r :: R, i => by
    rw [scal, comb, comb, comb_scal c ws R i]
    grind
def plus : List Int → List Int → List Int
  | [], v => v
  | w, [] => w
  | a :: w, b :: v => (a + b) :: plus w v
theorem comb_plus : ∀ (ws vs : List Int) (R : List Row) (i : Nat), comb (plus ws vs) R i = comb ws R i + comb vs R i
  | [], v, R, i => by rw [plus, comb_nilL, Int.zero_add]
  | a :: w, [], R, i => by rw [plus, comb_nilL, Int.add_zero]; intro h; cases h
  | a :: w, b :: v, [], i => by rw [comb_nil, comb_nil, comb_nil]; rfl
  | a :: w, b :: v, r :: R, i => by
    rw [plus, comb, comb, comb, comb_plus w v R i]
    grind
section
variable {p : Int} {L : Nat}
theorem InSp.zero {R : List Row} {x : Row} (h : ∀ i, i < L → p ∣ x i) : InSp p L R x := ⟨[], fun i hi => by rw [comb_nilL, Int.sub_zero]; exact h i hi⟩
theorem InSp.lin {R : List Row} {x y z : Row} (a b : Int) (hx : InSp p L R x) (hy : InSp p L R y) (hz : ∀ i, i < L → p ∣ z i - (a * x i + b * y i)) : InSp p L R z := by
  obtain ⟨ws, hw⟩ := hx
  obtain ⟨vs, hv⟩ := hy
  refine ⟨plus (scal a ws) (scal b vs), fun i hi => ?_⟩
  rw [comb_plus, comb_scal, comb_scal]
  obtain ⟨k1, e1⟩ := hw i hi
  obtain ⟨k2, e2⟩ := hv i hi
  obtain ⟨k3, e3⟩ := hz i hi
  refine ⟨k3 + a * k1 + b * k2, ?_⟩
  grind
theorem InSp.cong {R : List Row} {x z : Row} (hx : InSp p L R x) (hz : ∀ i, i < L → p ∣ z i - x i) : InSp p L R z := by
  refine InSp.lin 1 0 hx hx fun i hi => ?_
  obtain ⟨k, e⟩ := hz i hi
  exact ⟨k, by grind⟩
theorem InSp.mem {r : Row} : ∀ {R : List Row}, r ∈ R → InSp p L R r
  | a :: R, h => by
    rcases List.mem_cons.mp h with rfl | h
    · refine ⟨[1], fun i _ => ?_⟩
      rw [comb, comb_nilL]
      exact ⟨0, by grind⟩
    · obtain ⟨ws, hw⟩ := InSp.mem h
      refine ⟨0 :: ws, fun i hi => ?_⟩
      rw [comb]
      obtain ⟨k, e⟩ := hw i hi
      exact ⟨k, by grind⟩
theorem InSp.of_comb {S : List Row} : ∀ {R : List Row} (ws : List Int), (∀ r ∈ R, InSp p L S r) → InSp p L S (comb ws R)
  | [], ws, _ => InSp.zero fun i _ => by rw [comb_nil]; exact Int.dvd_zero _
  | a :: R, [], _ => InSp.zero fun i _ => by rw [comb_nilL]; exact Int.dvd_zero _
  | a :: R, w :: ws, h => by
    refine InSp.lin w 1 (h a List.mem_cons_self) (InSp.of_comb ws fun r m => h r (List.mem_cons_of_mem _ m)) fun i _ => ?_
    rw [comb]
    exact ⟨0, by grind⟩
theorem InSp.into {R S : List Row} {x : Row} (hx : InSp p L R x) (h : ∀ r ∈ R, InSp p L S r) : InSp p L S x := by
  obtain ⟨ws, hw⟩ := hx
  exact (InSp.of_comb ws h).cong hw
theorem InSp.mono {R S : List Row} {x : Row} (hx : InSp p L R x) (h : ∀ r ∈ R, r ∈ S) : InSp p L S x := hx.into fun r m => InSp.mem (h r m)
theorem InSp.cons_iff {R : List Row} {a x : Row} : InSp p L (a :: R) x ↔ ∃ c : Int, InSp p L R fun i => x i - c * a i := by
  constructor
  · rintro ⟨ws, hw⟩
    cases ws with
    | nil =>
      refine ⟨0, InSp.zero fun i hi => ?_⟩
      have := hw i hi
      rw [comb_nilL, Int.sub_zero] at this
      rw [Int.zero_mul, Int.sub_zero]
      exact this
    | cons w ws =>
      refine ⟨w, ws, fun i hi => ?_⟩
      have := hw i hi
      rw [comb] at this
      rw [show x i - w * a i - comb ws R i = x i - (w * a i + comb ws R i) by omega]
      exact this
  · rintro ⟨c, h⟩
    refine InSp.lin 1 c (h.mono fun r m => List.mem_cons_of_mem _ m) (InSp.mem (r := a) List.mem_cons_self) fun i _ => ⟨0, by grind⟩
/-- p is a prime as far as inverses go -/
def PInv (p : Int) : Prop := 1 < p ∧ ∀ a : Int, ¬ p ∣ a → ∃ b : Int, p ∣ a * b - 1
theorem InSp.swap {R : List Row} {a b : Row} (hp : PInv p) (h : InSp p L (a :: R) b) (n : ¬ InSp p L R b) : InSp p L (b :: R) a := by
  obtain ⟨c, hc⟩ := InSp.cons_iff.mp h
  by_cases d : p ∣ c
  · refine absurd (hc.cong fun i _ => ?_) n
    obtain ⟨k, e⟩ := d
    exact ⟨k * a i, by grind⟩
  · obtain ⟨u, k, e⟩ := hp.2 c d
    refine InSp.lin u (-u) (InSp.mem (r := b) List.mem_cons_self) (hc.mono fun r m => List.mem_cons_of_mem _ m) fun i _ => ?_
    exact ⟨- k * a i, by grind⟩
theorem InSp.nil_iff {x : Row} : InSp p L [] x ↔ ∀ i, i < L → p ∣ x i := by
  constructor
  · rintro ⟨ws, h⟩ i hi
    have := h i hi
    rw [comb_nil, Int.sub_zero] at this
    exact this
  · exact InSp.zero
/-! ### dimension, counted from the front -/
open Classical in
theorem one_iff {P Q : Prop} (h : P ↔ Q) : (if P then 0 else 1 : Nat) = if Q then 0 else 1 := by
  by_cases p : P
  · rw [if_pos p, if_pos (h.mp p)]
  · rw [if_neg p, if_neg fun q => p (h.mpr q)]
open Classical in
noncomputable def dimA (p : Int) (L : Nat) (A : List Row) : List Row → Nat
  | [] => 0
  | r :: R => (if InSp p L A r then 0 else 1) + dimA p L (r :: A) R
noncomputable def dim (p : Int) (L : Nat) (R : List Row) : Nat := dimA p L [] R
theorem dimA_cong : ∀ (R : List Row) {A B : List Row}, (∀ x, InSp p L A x ↔ InSp p L B x) → dimA p L A R = dimA p L B R
  | [], _, _, _ => rfl
  | r :: R, A, B, h => by
    rw [dimA, dimA]
    rw [one_iff (h r)]
    rw [dimA_cong R (A := r :: A) (B := r :: B) fun x => ?_]
    rw [InSp.cons_iff, InSp.cons_iff]
    exact ⟨fun ⟨c, z⟩ => ⟨c, (h _).mp z⟩, fun ⟨c, z⟩ => ⟨c, (h _).mpr z⟩⟩
theorem sp_perm2 {A : List Row} {a b x : Row} (h : InSp p L (a :: b :: A) x) : InSp p L (b :: a :: A) x := h.mono fun r m => by
  simp only [List.mem_cons] at m ⊢
  rcases m with m | m | m
  · exact .inr (.inl m)
  · exact .inl m
  · exact .inr (.inr m)
theorem dimA_swap (hp : PInv p) (A R : List Row) (a b : Row) : dimA p L A (a :: b :: R) = dimA p L A (b :: a :: R) := by
  rw [dimA, dimA, dimA, dimA]
  rw [dimA_cong R (A := b :: a :: A) (B := a :: b :: A) fun x => ⟨sp_perm2, sp_perm2⟩]
  have m1 : InSp p L A b → InSp p L (a :: A) b := fun h => h.mono fun r m => List.mem_cons_of_mem _ m
  have m2 : InSp p L A a → InSp p L (b :: A) a := fun h => h.mono fun r m => List.mem_cons_of_mem _ m
  by_cases ha : InSp p L A a
  · by_cases hb : InSp p L A b
    · simp only [if_pos ha, if_pos hb, if_pos (m1 hb), if_pos (m2 ha)]
    · have n : ¬ InSp p L (a :: A) b := fun z => hb (z.into fun r m => by
        rcases List.mem_cons.mp m with rfl | m
        · exact ha
        · exact InSp.mem m)
      simp only [if_pos ha, if_neg hb, if_neg n, if_pos (m2 ha)]
      omega
  · by_cases hb : InSp p L A b
    · have n : ¬ InSp p L (b :: A) a := fun z => ha (z.into fun r m => by
        rcases List.mem_cons.mp m with rfl | m
        · exact hb
        · exact InSp.mem m)
      simp only [if_neg ha, if_pos hb, if_pos (m1 hb), if_neg n]
      omega
    · by_cases h : InSp p L (a :: A) b
      · simp only [if_neg ha, if_neg hb, if_pos h, if_pos (h.swap hp hb)]
      · have n : ¬ InSp p L (b :: A) a := fun z => h (z.swap hp ha)
        simp only [if_neg ha, if_neg hb, if_neg h, if_neg n]
theorem dimA_front (hp : PInv p) : ∀ (R A : List Row) (r : Row), dimA p L A (R ++ [r]) = dimA p L A (r :: R)
  | [], A, r => rfl
  | a :: R, A, r => by
    rw [dimA_swap hp, List.cons_append, dimA, dimA_front hp R (a :: A) r]
    conv => rhs; rw [dimA]
open Classical in
theorem dimA_back : ∀ (R A : List Row) (r : Row), dimA p L A (R ++ [r]) = dimA p L A R + (if InSp p L (R ++ A) r then 0 else 1)
  | [], A, r => by
    show dimA p L A [r] = dimA p L A [] + _
    rw [dimA, dimA, dimA]
    simp
  | a :: R, A, r => by
    rw [List.cons_append, dimA, dimA_back R (a :: A) r, dimA]
    have e : InSp p L (R ++ a :: A) r = InSp p L (a :: R ++ A) r := propext (by
      have k : ∀ {S T : List Row}, (∀ x, x ∈ S → x ∈ T) → InSp p L S r → InSp p L T r := fun h z => z.mono h
      exact ⟨k (by intro x m; simp only [List.cons_append, List.mem_cons, List.mem_append] at m ⊢; rcases m with m | m | m <;> simp [m]), k (by intro x m; simp only [List.cons_append, List.mem_cons, List.mem_append] at m ⊢; rcases m with m | m | m <;> simp [m])⟩)
    simp only [e]
    omega
open Classical in
theorem dim_back (R : List Row) (r : Row) : dim p L (R ++ [r]) = dim p L R + (if InSp p L R r then 0 else 1) := by
  have := dimA_back (p := p) (L := L) R [] r
  rw [List.append_nil] at this
  exact this
theorem dim_zero (hp : PInv p) {R : List Row} {r : Row} (h : ∀ i, i < L → p ∣ r i) : dim p L (R ++ [r]) = dim p L R := by
  rw [dim_back, if_pos (InSp.zero h)]
  rfl
/-- f takes a multiple of r away, such that place k becomes 0 -/
theorem sp_red {r : Row} {f : Row → Row} {k : Nat} (hp : PInv p) (hk : k < L) (hr : ¬ p ∣ r k) (hf : ∀ x, ∃ c : Int, ∀ i, i < L → p ∣ f x i - (x i - c * r i)) (h0 : ∀ x, p ∣ f x k) {A : List Row} {x : Row} :
    InSp p L (A ++ [r]) x ↔ InSp p L (A.map f) (f x) := by
  constructor
  · intro h
    -- all in terms of f and r
    have h1 : InSp p L (r :: A.map f) (f x) := by
      obtain ⟨c, hc⟩ := hf x
      refine InSp.lin (x := x) (y := r) 1 (-c) (h.into fun a m => ?_) (InSp.mem List.mem_cons_self) fun i hi => ?_
      · rcases List.mem_append.mp m with m | m
        · obtain ⟨c, hc⟩ := hf a
          refine InSp.lin (x := f a) (y := r) 1 c (InSp.mem (List.mem_cons_of_mem _ (List.mem_map_of_mem m))) (InSp.mem List.mem_cons_self) fun i hi => ?_
          obtain ⟨u, e⟩ := hc i hi
          exact ⟨-u, by grind⟩
        · rw [List.mem_singleton.mp m]
          exact InSp.mem List.mem_cons_self
      · obtain ⟨u, e⟩ := hc i hi
        exact ⟨u, by grind⟩
    obtain ⟨c, hc⟩ := InSp.cons_iff.mp h1
    have key : p ∣ c * r k := by
      obtain ⟨ws, hw⟩ := hc
      obtain ⟨u, e⟩ := hw k hk
      obtain ⟨v, e2⟩ := h0 x
      have z : ∀ (B : List Row) (ws : List Int), p ∣ comb ws (B.map f) k := by
        intro B
        induction B with
        | nil =>
          intro ws
          show p ∣ comb ws [] k
          rw [comb_nil]
          exact Int.dvd_zero _
        | cons b B ih =>
          intro ws
          cases ws with
          | nil => rw [comb_nilL]; exact Int.dvd_zero _
          | cons w ws =>
            rw [List.map_cons, comb]
            exact Int.dvd_add (Int.dvd_mul_of_dvd_right (h0 b)) (ih ws)
      obtain ⟨t, e3⟩ := z A ws
      exact ⟨v - u - t, by grind⟩
    have hc0 : p ∣ c := by
      obtain ⟨b, m, e⟩ := hp.2 _ hr
      obtain ⟨n, e2⟩ := key
      exact ⟨n * b - c * m, by grind⟩
    refine hc.cong fun i _ => ?_
    obtain ⟨n, e⟩ := hc0
    exact ⟨n * r i, by grind⟩
  · intro h
    obtain ⟨c, hc⟩ := hf x
    refine InSp.lin (x := f x) (y := r) 1 c (h.into fun b m => ?_) (InSp.mem (List.mem_append_right _ List.mem_cons_self)) fun i hi => ?_
    · obtain ⟨a, ma, rfl⟩ := List.mem_map.mp m
      obtain ⟨c, hc⟩ := hf a
      refine InSp.lin (x := a) (y := r) 1 (-c) (InSp.mem (List.mem_append_left _ ma)) (InSp.mem (List.mem_append_right _ List.mem_cons_self)) fun i hi => ?_
      obtain ⟨u, e⟩ := hc i hi
      exact ⟨u, by grind⟩
    · obtain ⟨u, e⟩ := hc i hi
      exact ⟨-u, by grind⟩
theorem dimA_red {r : Row} {f : Row → Row} {k : Nat} (hp : PInv p) (hk : k < L) (hr : ¬ p ∣ r k) (hf : ∀ x, ∃ c : Int, ∀ i, i < L → p ∣ f x i - (x i - c * r i)) (h0 : ∀ x, p ∣ f x k) : ∀ (R A : List Row), dimA p L (A ++ [r]) R = dimA p L (A.map f) (R.map f)
  | [], A => rfl
  | a :: R, A => by
    rw [dimA, List.map_cons, dimA]
    have ih := dimA_red hp hk hr hf h0 R (a :: A)
    rw [List.cons_append, List.map_cons] at ih
    rw [ih]
    rw [one_iff (sp_red hp hk hr hf h0)]
theorem dim_red {r : Row} {f : Row → Row} {k : Nat} (hp : PInv p) (hk : k < L) (hr : ¬ p ∣ r k) (hf : ∀ x, ∃ c : Int, ∀ i, i < L → p ∣ f x i - (x i - c * r i)) (h0 : ∀ x, p ∣ f x k) (R : List Row) : dim p L (R ++ [r]) = 1 + dim p L (R.map f) := by
  unfold dim
  rw [dimA_front hp, dimA, if_neg fun z => hr (InSp.nil_iff.mp z k hk)]
  have := dimA_red hp hk hr hf h0 R []
  rw [List.nil_append] at this
  rw [this]
  rfl
end
end Lj
set_option linter.all false
namespace Lj
/-! ### inverses by powers, as the law finds them -/
def pmg : Nat → Nat → Nat → Nat → Nat → Nat
  | 0, _, f, _, _ => f
  | n + 1, q, f, b, l => bif Nat.beq l 0 then f else pmg n q (bif Nat.beq (l % 2) 1 then f * b % q else f) (b * b % q) (l / 2)
def prsN : List Nat := [2, 3, 5, 7, 11, 13, 97, 251, 9973, 10007]
def pmOk (q : Nat) : Bool := (List.range q).all fun a => Nat.beq a 0 || Nat.beq (a * pmg 14 q 1 a (q - 2) % q) 1
theorem pm_ok : (prsN.all pmOk) = true := by decide +kernel
theorem pmg_zero (n q f b : Nat) : pmg n q f b 0 = f := by
  cases n with
  | zero => rfl
  | succ n => rfl
theorem pmg_step (n q f b l : Nat) (h : l ≠ 0) : pmg (n + 1) q f b l = pmg n q (if l % 2 = 1 then f * b % q else f) (b * b % q) (l / 2) := by
  rw [pmg]
  have e : Nat.beq l 0 = false := by
    cases z : Nat.beq l 0 with
    | false => rfl
    | true => exact absurd (Nat.eq_of_beq_eq_true z) h
  rw [e]
  by_cases c : l % 2 = 1
  · rw [if_pos c, c]
    rfl
  · have e2 : Nat.beq (l % 2) 1 = false := by
      cases z : Nat.beq (l % 2) 1 with
      | false => rfl
      | true => exact absurd (Nat.eq_of_beq_eq_true z) c
    rw [if_neg c, e2]
    rfl
theorem pm_inv {q a : Nat} (hq : q ∈ prsN) (h0 : 0 < a) (h1 : a < q) : a * pmg 14 q 1 a (q - 2) % q = 1 := by
  have k := List.all_eq_true.mp (List.all_eq_true.mp pm_ok q hq) a (List.mem_range.mpr h1)
  rw [Bool.or_eq_true] at k
  rcases k with k | k
  · exact absurd (Nat.eq_of_beq_eq_true k) (by omega)
  · exact Nat.eq_of_beq_eq_true k
theorem pinv_prs {q : Int} (hq : q ∈ prsN.map fun n : Nat => (n : Int)) : PInv q := by
  obtain ⟨n, hn, rfl⟩ := List.mem_map.mp hq
  have n1 : 1 < n := by
    have z : (prsN.all fun n => decide (1 < n)) = true := by decide
    exact of_decide_eq_true (List.all_eq_true.mp z n hn)
  refine ⟨by omega, fun a ha => ?_⟩
  have m0 := Int.emod_nonneg a (show (n : Int) ≠ 0 by omega)
  have m1 := Int.emod_lt_of_pos a (show (0 : Int) < n by omega)
  have mz : a % n ≠ 0 := fun z => ha (Int.dvd_of_emod_eq_zero z)
  have k := pm_inv hn (a := (a % n).toNat) (by omega) (by omega)
  generalize pmg 14 n 1 (a % n).toNat (n - 2) = b at k
  refine ⟨(b : Int), ?_⟩
  have e1 : ((a % n).toNat * b : Nat) = n * ((a % n).toNat * b / n) + 1 := by
    have := Nat.div_add_mod ((a % n).toNat * b) n
    omega
  have e3 : (((a % n).toNat : Nat) : Int) = a % n := Int.toNat_of_nonneg m0
  generalize (a % n).toNat * b / n = z at e1
  have e2 : (a % n) * (b : Int) = (n : Int) * (z : Int) + 1 := by
    rw [← e3, ← Int.natCast_mul, e1, Int.natCast_add, Int.natCast_mul]
    rfl
  have e4 := Int.emod_def a n
  rw [e4] at e2
  exact ⟨(z : Int) + a / n * b, by grind⟩
/-! ### sums, dot products -/
def sumF (f : Nat → Int) : Nat → Int
  | 0 => 0
  | n + 1 => sumF f n + f n
theorem sumF_cong {f g : Nat → Int} : ∀ {n : Nat}, (∀ k, k < n → f k = g k) → sumF f n = sumF g n
  | 0, _ => rfl
  | n + 1, h => by rw [sumF, sumF, sumF_cong fun k hk => h k (Nat.lt_succ_of_lt hk), h n (Nat.lt_succ_self n)]
theorem sumF_add (f : Nat → Int) (a : Nat) : ∀ b : Nat, sumF f (a + b) = sumF f a + sumF (fun i => f (a + i)) b
  | 0 => by rw [sumF, Nat.add_zero, Int.add_zero]
  | b + 1 => by rw [← Nat.add_assoc, sumF, sumF_add f a b, sumF]; omega
theorem sumF_zero {f : Nat → Int} : ∀ {n : Nat}, (∀ k, k < n → f k = 0) → sumF f n = 0
  | 0, _ => rfl
  | n + 1, h => by rw [sumF, sumF_zero fun k hk => h k (Nat.lt_succ_of_lt hk), h n (Nat.lt_succ_self n)]; rfl
theorem sumF_dvd {p : Int} {f g : Nat → Int} : ∀ {n : Nat}, (∀ k, k < n → p ∣ f k - g k) → p ∣ sumF f n - sumF g n
  | 0, _ => ⟨0, by rw [sumF, sumF]; omega⟩
  | n + 1, h => by
    obtain ⟨a, ha⟩ := sumF_dvd (n := n) fun k hk => h k (Nat.lt_succ_of_lt hk)
    obtain ⟨b, hb⟩ := h n (Nat.lt_succ_self n)
    exact ⟨a + b, by rw [sumF, sumF]; grind⟩
theorem sumF_lin (a b : Int) (f g : Nat → Int) : ∀ n : Nat, sumF (fun k => a * f k + b * g k) n = a * sumF f n + b * sumF g n
  | 0 => by rw [sumF, sumF, sumF]; omega
  | n + 1 => by rw [sumF, sumF, sumF, sumF_lin a b f g n]; grind
def dot (n : Nat) (e v : Nat → Int) : Int := sumF (fun k => e k * v k) n
theorem dot_lin {p a b : Int} {n : Nat} {e f g v : Nat → Int} (h : ∀ k, k < n → p ∣ e k - (a * f k + b * g k)) : p ∣ dot n e v - (a * dot n f v + b * dot n g v) := by
  unfold dot
  rw [← sumF_lin]
  refine sumF_dvd fun k hk => ?_
  obtain ⟨m, hm⟩ := h k hk
  exact ⟨m * v k, by grind⟩
/-- e begins at c, with 1 -/
def Begins (c : Nat) (e : Nat → Int) : Prop := (∀ k, k < c → e k = 0) ∧ e c = 1
theorem dot_begins {n c : Nat} {e v : Nat → Int} (h : Begins c e) (hc : c < n) : dot n e v = v c + sumF (fun i => e (c + 1 + i) * v (c + 1 + i)) (n - (c + 1)) := by
  unfold dot
  obtain ⟨m, rfl⟩ : ∃ m, n = c + 1 + m := ⟨n - (c + 1), by omega⟩
  rw [sumF_add, sumF, sumF_zero fun k hk => by rw [h.1 k hk, Int.zero_mul], h.2, show c + 1 + m - (c + 1) = m by omega]
  omega
theorem dot_last {n c : Nat} {e v : Nat → Int} (h : Begins c e) (hc : c < n) (hv : ∀ k, c < k → k < n → v k = 0) : dot n e v = v c := by
  rw [dot_begins h hc, sumF_zero fun k hk => by rw [hv _ (by omega) (by omega), Int.mul_zero]]
  omega
/-! ### weights of rows: what the equations say -/
/-- the weights ws, then -1 -/
def ext (m : Nat) (w : Nat → Int) : Nat → Int := fun k => if k < m then w k else -1
/-- the sum of rows by index -/
theorem comb_sum : ∀ (ws : List Int) (R : List Row) (i : Nat), ws.length = R.length → comb ws R i = sumF (fun k => (R.getD k fun _ => 0) i * ws.getD k 0) R.length
  | [], [], i, _ => rfl
  | w :: ws, r :: R, i, h => by
    rw [comb, comb_sum ws R i (by simpa using h), List.length_cons, Nat.add_comm R.length 1, sumF_add, sumF, sumF]
    simp only [Nat.add_comm 1, List.getD_cons_succ, List.getD_cons_zero]
    grind
/-- a combination may be given as many weights as there are rows -/
theorem comb_pad : ∀ (ws : List Int) (R : List Row), ∃ vs : List Int, vs.length = R.length ∧ ∀ i, comb vs R i = comb ws R i
  | ws, [] => ⟨[], rfl, fun i => by rw [comb_nil, comb_nil]⟩
  | [], r :: R => by
    obtain ⟨vs, h, e⟩ := comb_pad [] R
    refine ⟨0 :: vs, by simp [h], fun i => ?_⟩
    rw [comb, e, comb_nilL, comb_nilL]
    omega
  | w :: ws, r :: R => by
    obtain ⟨vs, h, e⟩ := comb_pad ws R
    refine ⟨w :: vs, by simp [h], fun i => ?_⟩
    rw [comb, comb, e]
theorem InSp.sum {p : Int} {L : Nat} {R : List Row} {x : Row} : InSp p L R x ↔ ∃ w : Nat → Int, ∀ i, i < L → p ∣ x i - sumF (fun k => (R.getD k fun _ => 0) i * w k) R.length := by
  constructor
  · rintro ⟨ws, h⟩
    obtain ⟨vs, hl, e⟩ := comb_pad ws R
    refine ⟨fun k => vs.getD k 0, fun i hi => ?_⟩
    rw [← comb_sum vs R i hl, e]
    exact h i hi
  · rintro ⟨w, h⟩
    refine ⟨(List.range R.length).map w, fun i hi => ?_⟩
    rw [comb_sum _ R i (by simp)]
    have e : sumF (fun k => (R.getD k fun _ => 0) i * ((List.range R.length).map w).getD k 0) R.length = sumF (fun k => (R.getD k fun _ => 0) i * w k) R.length := sumF_cong fun k hk => by
      rw [List.getD_eq_getElem?_getD (l := (List.range R.length).map w), List.getElem?_map, List.getElem?_range hk]
      rfl
    rw [e]
    exact h i hi
/-- the coefficients of place i: one for each row, then the right side -/
def eqn (R : List Row) (x : Row) (i : Nat) : Nat → Int := fun k => if k < R.length then (R.getD k fun _ => 0) i else x i
theorem dot_eqn (R : List Row) (x : Row) (i : Nat) (w : Nat → Int) : dot (R.length + 1) (eqn R x i) (ext R.length w) = sumF (fun k => (R.getD k fun _ => 0) i * w k) R.length - x i := by
  unfold dot
  rw [sumF]
  have e : sumF (fun k => eqn R x i k * ext R.length w k) R.length = sumF (fun k => (R.getD k fun _ => 0) i * w k) R.length := sumF_cong fun k hk => by
    unfold eqn ext
    rw [if_pos hk, if_pos hk]
  rw [e]
  unfold eqn ext
  rw [if_neg (Nat.lt_irrefl _), if_neg (Nat.lt_irrefl _)]
  omega
/-- what is known of the leading equations: lead c e says that e leads at c -/
structure Lead (p : Int) (R : List Row) (x : Row) (L : Nat) (lead : Nat → (Nat → Int) → Prop) : Prop where
  bg : ∀ c e, lead c e → c ≤ R.length ∧ Begins c e
  same : ∀ v : Nat → Int, (∀ i, i < L → p ∣ dot (R.length + 1) (eqn R x i) v) ↔ ∀ c e, lead c e → p ∣ dot (R.length + 1) e v
theorem Lead.none {p : Int} {R : List Row} {x : Row} {L : Nat} {lead : Nat → (Nat → Int) → Prop} (h : Lead p R x L lead) (hp : 1 < p) {e : Nat → Int} (k : lead R.length e) : ¬ InSp p L R x := by
  intro z
  obtain ⟨w, hw⟩ := InSp.sum.mp z
  have y := (h.same (ext R.length w)).mp (fun i hi => by
    rw [dot_eqn]
    obtain ⟨a, ha⟩ := hw i hi
    exact ⟨-a, by grind⟩) _ _ k
  rw [dot_last (h.bg _ _ k).2 (by omega) (fun j h1 h2 => by omega)] at y
  unfold ext at y
  rw [if_neg (Nat.lt_irrefl _)] at y
  obtain ⟨a, ha⟩ := y
  have : p ∣ 1 := ⟨-a, by grind⟩
  have := Int.le_of_dvd (by decide) this
  omega
theorem Lead.some {p : Int} {R : List Row} {x : Row} {L : Nat} {lead : Nat → (Nat → Int) → Prop} (h : Lead p R x L lead) {w : Nat → Int} (k : ∀ c e, lead c e → p ∣ dot (R.length + 1) e (ext R.length w)) : ∀ i, i < L → p ∣ x i - sumF (fun k => (R.getD k fun _ => 0) i * w k) R.length := by
  intro i hi
  have y := (h.same _).mpr k i hi
  rw [dot_eqn] at y
  obtain ⟨a, ha⟩ := y
  exact ⟨-a, by grind⟩
theorem Lead.new {p : Int} {R : List Row} {x : Row} {L : Nat} {lead : Nat → (Nat → Int) → Prop} (h : Lead p R x L lead) (hp : 1 < p) {c : Nat} {e : Nat → Int} (k : lead c e) (hc : c < R.length) : ¬ InSp p L (R.take c) (R.getD c fun _ => 0) := by
  intro z
  obtain ⟨w, hw⟩ := InSp.sum.mp z
  have lt : (R.take c).length = c := by rw [List.length_take]; omega
  rw [lt] at hw
  have y := (h.same (fun j => if j < c then w j else if j = c then -1 else 0)).mp (fun i hi => by
    obtain ⟨a, ha⟩ := hw i hi
    have e0 : dot (R.length + 1) (eqn R x i) (fun j => if j < c then w j else if j = c then -1 else 0) = sumF (fun k => ((R.take c).getD k fun _ => 0) i * w k) c - (R.getD c fun _ => 0) i := by
      unfold dot
      obtain ⟨m, hm⟩ : ∃ m, R.length + 1 = c + 1 + m := ⟨R.length - c, by omega⟩
      rw [hm, sumF_add, sumF]
      have z1 : sumF (fun i_1 => eqn R x i (c + 1 + i_1) * if c + 1 + i_1 < c then w (c + 1 + i_1) else if c + 1 + i_1 = c then -1 else 0) m = 0 := sumF_zero fun k _ => by
        rw [if_neg (by omega), if_neg (by omega), Int.mul_zero]
      have z2 : sumF (fun k => eqn R x i k * if k < c then w k else if k = c then -1 else 0) c = sumF (fun k => ((R.take c).getD k fun _ => 0) i * w k) c := sumF_cong fun k hk => by
        rw [if_pos hk]
        unfold eqn
        rw [if_pos (by omega), List.getD_eq_getElem?_getD, List.getD_eq_getElem?_getD, List.getElem?_take_of_lt hk]
      rw [z1, z2]
      have z3 : (if c < c then w c else if c = c then -1 else 0 : Int) = -1 := by rw [if_neg (Nat.lt_irrefl _), if_pos rfl]
      have z4 : eqn R x i c = (R.getD c fun _ => 0) i := by
        unfold eqn
        rw [if_pos hc]
      show _ + eqn R x i c * (if c < c then w c else if c = c then -1 else 0) + 0 = _
      rw [z3, z4]
      omega
    exact ⟨-a, by rw [e0]; grind⟩) _ _ k
  rw [dot_last (h.bg _ _ k).2 (by omega) (fun j h1 h2 => by rw [if_neg (by omega), if_neg (by omega)]), if_neg (Nat.lt_irrefl _), if_pos rfl] at y
  obtain ⟨a, ha⟩ := y
  have : p ∣ 1 := ⟨-a, by grind⟩
  have := Int.le_of_dvd (by decide) this
  omega
/-! ### weights are unique -/
/-- the weights of x: field elements, 0 where a row is a combination of those before it -/
structure Wts (p : Int) (L : Nat) (R : List Row) (x : Row) (w : List Int) : Prop where
  len : w.length = R.length
  bd : ∀ a ∈ w, 0 ≤ a ∧ a < p
  sum : ∀ i, i < L → p ∣ x i - sumF (fun k => (R.getD k fun _ => 0) i * w.getD k 0) R.length
  nz : ∀ c, c < R.length → w.getD c 0 ≠ 0 → ¬ InSp p L (R.take c) (R.getD c fun _ => 0)
theorem Wts.uniq {p : Int} {L : Nat} {R : List Row} {x : Row} {w u : List Int} (hp : PInv p) (a : Wts p L R x w) (b : Wts p L R x u) : w = u := by
  refine Classical.byContradiction fun ne => ?_
  -- the last place where they differ
  have key : ∀ n, n ≤ R.length → (∀ k, n ≤ k → k < R.length → w.getD k 0 = u.getD k 0) → False := by
    intro n
    induction n with
    | zero =>
      intro _ h
      refine ne (List.ext_getElem (by rw [a.len, b.len]) fun k h1 h2 => ?_)
      have := h k (Nat.zero_le _) (by rw [← a.len]; exact h1)
      rw [List.getD_eq_getElem?_getD, List.getD_eq_getElem?_getD, List.getElem?_eq_getElem h1, List.getElem?_eq_getElem h2] at this
      exact this
    | succ n ih =>
      intro hn h
      refine ih (by omega) fun k h1 h2 => ?_
      by_cases e : k = n
      · subst e
        refine Classical.byContradiction fun d => ?_
        have bd : ∀ {v : List Int}, (∀ a ∈ v, 0 ≤ a ∧ a < p) → k < v.length → 0 ≤ v.getD k 0 ∧ v.getD k 0 < p := fun {v} hv hk => by
          rw [List.getD_eq_getElem?_getD, List.getElem?_eq_getElem hk]
          exact hv _ (List.getElem_mem hk)
        have b1 := bd a.bd (by rw [a.len]; omega)
        have b2 := bd b.bd (by rw [b.len]; omega)
        have nd : ¬ p ∣ w.getD k 0 - u.getD k 0 := fun z => by
          have p1 := hp.1
          rcases Int.lt_trichotomy (w.getD k 0 - u.getD k 0) 0 with q | q | q
          · have := Int.le_of_dvd (a := p) (b := u.getD k 0 - w.getD k 0) (by omega) (by obtain ⟨m, hm⟩ := z; exact ⟨-m, by grind⟩)
            omega
          · omega
          · have := Int.le_of_dvd q z
            omega
        obtain ⟨t, m, hm⟩ := hp.2 _ nd
        have dep : InSp p L (R.take k) (R.getD k fun _ => 0) := by
          refine InSp.sum.mpr ⟨fun j => -t * (w.getD j 0 - u.getD j 0), fun i hi => ?_⟩
          have lt : (R.take k).length = k := by rw [List.length_take]; omega
          rw [lt]
          obtain ⟨m1, e1⟩ := a.sum i hi
          obtain ⟨m2, e2⟩ := b.sum i hi
          have split : ∀ v : List Int, sumF (fun j => (R.getD j fun _ => 0) i * v.getD j 0) R.length = sumF (fun j => (R.getD j fun _ => 0) i * v.getD j 0) k + (R.getD k fun _ => 0) i * v.getD k 0 + sumF (fun j => (R.getD (k + 1 + j) fun _ => 0) i * v.getD (k + 1 + j) 0) (R.length - (k + 1)) := fun v => by
            have e : R.length = k + 1 + (R.length - (k + 1)) := by omega
            conv => lhs; rw [e, sumF_add, sumF]
          rw [split w] at e1
          rw [split u] at e2
          have tail : sumF (fun j => (R.getD (k + 1 + j) fun _ => 0) i * w.getD (k + 1 + j) 0) (R.length - (k + 1)) = sumF (fun j => (R.getD (k + 1 + j) fun _ => 0) i * u.getD (k + 1 + j) 0) (R.length - (k + 1)) := sumF_cong fun j hj => by
            rw [h (k + 1 + j) (by omega) (by omega)]
          rw [tail] at e1
          have front : sumF (fun j => ((R.take k).getD j fun _ => 0) i * (-t * (w.getD j 0 - u.getD j 0))) k = -t * sumF (fun j => (R.getD j fun _ => 0) i * w.getD j 0) k + t * sumF (fun j => (R.getD j fun _ => 0) i * u.getD j 0) k := by
            rw [← sumF_lin]
            refine sumF_cong fun j hj => ?_
            have : (R.take k).getD j (fun _ => 0) = R.getD j fun _ => 0 := by
              rw [List.getD_eq_getElem?_getD, List.getD_eq_getElem?_getD, List.getElem?_take_of_lt hj]
            rw [this]
            grind
          rw [front]
          generalize sumF (fun j => (R.getD j fun _ => 0) i * w.getD j 0) k = A at *
          generalize sumF (fun j => (R.getD j fun _ => 0) i * u.getD j 0) k = B at *
          generalize sumF (fun j => (R.getD (k + 1 + j) fun _ => 0) i * u.getD (k + 1 + j) 0) (R.length - (k + 1)) = C at *
          generalize w.getD k 0 = W at *
          generalize u.getD k 0 = U at *
          generalize (R.getD k fun _ => 0) i = r at *
          generalize x i = y at *
          clear split tail front
          exact ⟨t * m2 - t * m1 - r * m, by grind⟩
        have z1 : w.getD k 0 = 0 := Classical.byContradiction fun z => a.nz k h2 z dep
        have z2 : u.getD k 0 = 0 := Classical.byContradiction fun z => b.nz k h2 z dep
        exact d (z1.trans z2.symm)
      · exact h k (by omega) h2
  exact key R.length (Nat.le_refl _) fun k h1 h2 => by omega
theorem Wts.in_sp {p : Int} {L : Nat} {R : List Row} {x : Row} {w : List Int} (a : Wts p L R x w) : InSp p L R x := InSp.sum.mpr ⟨fun k => w.getD k 0, a.sum⟩
end Lj
set_option Elab.async false
set_option linter.all false
set_option maxRecDepth 100000
set_option maxHeartbeats 1000000
namespace Lj
open PySem PySem.Spec PyProof.Rows L2
/-! ### sorted(d, reverse=b), d a dict with int keys -/
def rSortDR (b : Bool) : List V → List V → Hp → VK → Prop := fun vs zs H Q => ∃ (a : Addr) (kvs : List (Key × V)) (ks : List Int), vs = [.ref a] ∧ zs = [.bl b] ∧ Rd H a (.dK kvs) ∧ kvs.map (·.1) = ks.map Sum.inl ∧ ks.length ≤ 1000 ∧
  ∀ (ys : List Int) (p : Addr), ys.Perm ks → OrdB b ys → H p = none → Q (.ref p) (upd H p (.lst (ys.map V.int)))
theorem cr_sortDR {X : Cx} {b : Bool} (calm : X.calm = true) : CallRK X (.builtin "sorted") [Str.ofString "reverse"] (rSortDR b) := by
  intro pins s σ H vs zs us ws Q I r rz h
  obtain ⟨a, kvs, ks, rfl, rfl, hd, hk, hl, q⟩ := h
  obtain rfl := Vals.ref1 r
  obtain ⟨w1, rfl, e1⟩ := vals1 rz
  obtain rfl : w1 = Value.bool b := e1
  obtain ⟨z, lo, ps, rel, dd⟩ := dk_rd I.hok hd
  obtain ⟨ep, hat⟩ := dd.dictAt
  have keys : ps.map (·.1) = ks.map Sum.inl := rel.keys.symm.trans hk
  have len : ps.length = ks.length := by
    have e := congrArg List.length keys
    rw [List.length_map, List.length_map] at e
    exact e
  have line : ps.length ≤ sizeLine := by rw [len, sizeLine_eq]; omega
  refine PyProof.Rows.call_function_entry_kw PyProof.Rows.kind_sorted PyProof.Rows.plain_sorted PyProof.Rows.entry_sorted (PyProof.Rows.args_sorted_rev _ _) ?_
  unfold Builtin.«sorted»; refine wpAny_bind (m := checkCount "sorted" 1 1 _) (wpAny_pure ?_)
  refine wpAny_bind (PySem.W.kdu_collect (A := X.A.in1) (PySem.W.kdl_dict (knd := mixKind X.prog X.w) (kvs := ps) (ep := ep) lo) (I.ok.hd calm) hat line fun h' tk acc k ac => ?_)
  have al : acc.toList.length = ks.length := by rw [Array.length_toList, ac.1, len]
  have isI : IntsAre acc.toList ks := ints_each al fun j v e => by
    obtain ⟨x, y, g1, g2⟩ := ac.2 j v (by rw [← Array.getElem?_toList]; exact e)
    have g3 : (ps.map (·.1))[j]? = some x := by rw [List.getElem?_map, g1]; rfl
    rw [keys, List.getElem?_map] at g3
    cases g4 : ks[j]? with
    | none => rw [g4] at g3; cases g3
    | some i =>
      rw [g4] at g3
      have g5 : Sum.inl i = x := Option.some.inj g3
      subst g5
      rcases keyIs_shape (show keyIs (Sum.inl i) v = true from g2) with ⟨c, t, ek, ev⟩ | ⟨c, t, ek, ev⟩
      · cases ek
        exact ⟨i, t, rfl, ev⟩
      · cases ek
  have J : Inv X pins σ H { s with heap := h', toks := tk } := I.kept k
  have al2 : acc.toList.length ≤ sizeLine := by rw [al, sizeLine_eq]; omega
  refine wpAny_bind (wpAny_newList ?_ al2)
  have at_ : (h'.push (seqObj "list" acc.toList.toArray 0)).get? h'.objs.size = some (seqObj "list" acc.toList.toArray 0) := Heap.get?_push_size _ rfl
  show wpAny _ _ _ _ _ { s with heap := h'.push (seqObj "list" acc.toList.toArray 0), toks := tk }
  refine wpAny_bind (wpAny_holding (wpAny_call_entry_kw PyProof.Rows.slot_list_sort ⟨_, at_, rfl⟩ PyProof.Rows.entry_list_sort ?_ (PyProof.Rows.args_list_sort_rev _ _)))
  refine SrtR.list_sort_ordR (s := { s with heap := h'.push (seqObj "list" acc.toList.toArray 0), toks := tk }) SrtO.swo_int at_ al2 (fun h2 => SrtO.ints_sortable isI h2) fun out h1 h2 => ⟨_, rfl, ?_⟩
  obtain ⟨ys, k1, k2, k3⟩ := SrtR.ints_outR isI h1 h2
  obtain ⟨e', he'⟩ := PyProof.Rows.sortedHeap_at (vs := acc.toList) (out := (if b = true then out.toArray.reverse else out.toArray)) at_
  have hlen : (ys.map V.int).length ≤ sizeLine := by
    rw [List.length_map, k2.length_eq, sizeLine_eq]
    omega
  have e0 : ((if b = true then out.toArray.reverse else out.toArray).toList).toArray = (if b = true then out.toArray.reverse else out.toArray) := Array.toArray_toList ..
  refine wpAny_pure ⟨_, rfl, .ref h'.objs.size, upd H h'.objs.size (.lst (ys.map V.int)), J.laid (t' := tk) (fun c u e => ?_) (Nat.le_refl _) (show ObjOk X.prog X.w _ _ _ (.lst (ys.map V.int)) from ⟨hlen, _, e', vals_of_ints k1, by rw [e0]; exact he'⟩), rfl, q ys _ k2 k3 (J.hok.fresh (Nat.le_refl _))⟩
  have lt : c < h'.objs.size := Heap.lt_size e
  rw [PyProof.Rows.sortedHeap_old (Nat.ne_of_lt lt) (by rw [size_push']; exact Nat.lt_succ_of_lt lt)]
  exact Heap.get?_push_of_some _ e
end Lj
set_option Elab.async false
set_option linter.all false
set_option maxRecDepth 100000
namespace Lj
open PySem PySem.Spec PyProof.Rows L2
theorem div_ok {i j : Int} {k : Nat} (h0 : 0 < j) (h : j.natAbs < 2 ^ k) (k0 : 0 < k) (k1 : k ≤ 9000) : CDivP i j := ⟨h0, PyProof.noPylong_of_log2 (Nat.lt_of_lt_of_le (PySem.Flt.log2_lt_of k0 h) k1)⟩
/-! ### the last step that assigns a register -/
/-- the registers that an instruction assigns -/
def asgs (w : Str) (as : List Int) : List Int := if w = "swap" then as else if w = "write" then [] else as.take 1
def Tr.asg (x : Int) : Tr → Bool
  | .op w as => decide (x ∈ asgs w as)
  | .loop _ _ => false
def la (x : Int) : List Tr → Option Nat
  | [] => none
  | t :: r => match la x r with
    | some j => some (j + 1)
    | none => if t.asg x then some 0 else none
theorem la_append (x : Int) (ys : List Tr) : ∀ xs : List Tr, la x (xs ++ ys) = match la x ys with
    | some j => some (xs.length + j)
    | none => la x xs
  | [] => by
    show la x ys = _
    cases la x ys with
    | none => rfl
    | some j => show some j = some (0 + j); rw [Nat.zero_add]
  | t :: r => by
    show (match la x (r ++ ys) with | some j => some (j + 1) | none => if t.asg x then some 0 else none) = _
    rw [la_append x ys r]
    cases la x ys with
    | none => rfl
    | some j =>
      show some (r.length + j + 1) = some (r.length + 1 + j)
      congr 1
      omega
theorem la_flat (x : Int) (xs : List Tr) : ∀ n : Nat, la x (List.replicate n xs).flatten = match n, la x xs with
    | 0, _ => none
    | k + 1, some j => some (k * xs.length + j)
    | _ + 1, none => none
  | 0 => rfl
  | n + 1 => by
    rw [List.replicate_succ', List.flatten_append, List.flatten_cons, List.flatten_nil, List.append_nil, la_append]
    cases h : la x xs with
    | some j =>
      show some (((List.replicate n xs).flatten).length + j) = some (n * xs.length + j)
      rw [flat_len]
    | none =>
      show la x (List.replicate n xs).flatten = none
      rw [la_flat x xs n, h]
      cases n <;> rfl
/-- a prefix of a repeated list -/
theorem take_flat {α : Type} (xs : List α) (n k r : Nat) (hk : k < n) (hr : r ≤ xs.length) : ((List.replicate n xs).flatten).take (k * xs.length + r) = (List.replicate k xs).flatten ++ xs.take r := by
  obtain ⟨m, rfl⟩ : ∃ m, n = k + (m + 1) := ⟨n - k - 1, by omega⟩
  rw [← List.replicate_append_replicate, List.flatten_append, ← flat_len k xs, List.take_length_add_append, List.replicate_succ, List.flatten_cons, List.take_append_of_le_length hr]
theorem take_flat_all {α : Type} (xs : List α) (n : Nat) : ((List.replicate n xs).flatten).take (n * xs.length) = (List.replicate n xs).flatten := by
  rw [← flat_len n xs]
  exact List.take_length
/-- an optional number as a value -/
def optV : Option Nat → V
  | none => .non
  | some j => .int (j : Nat)
mutual
/-- each instruction but loops has arguments -/
def Tr.hasArgs : Tr → Prop
  | .op _ as => as ≠ []
  | .loop _ b => haveArgs b
def haveArgs : List Tr → Prop
  | [] => True
  | t :: r => t.hasArgs ∧ haveArgs r
end
theorem args_get : ∀ {b : List Tr} {i : Nat} {t : Tr}, haveArgs b → b[i]? = some t → t.hasArgs
  | [], _, _, _, e => by simp at e
  | t :: r, 0, u, h, e => by
    cases e
    rw [haveArgs] at h
    exact h.1
  | t :: r, i + 1, u, h, e => by
    rw [haveArgs] at h
    exact args_get (i := i) h.2 e
theorem GoodOp.args {p n : Int} {w : Str} {as : List Int} (h : GoodOp p n w as) : as ≠ [] := by
  rcases h with ⟨_, _, _, rfl, _⟩ | ⟨_, _, rfl, _⟩ | ⟨_, _, _, rfl, _⟩ | ⟨_, _, _, _, rfl, _⟩ <;> intro z <;> cases z
mutual
theorem Tr.made_args {G : Str → List Int → Prop} {R : Int → Prop} (hG : ∀ w as, G w as → as ≠ []) : ∀ (t : Tr) (l d : Nat), t.made G R l d → t.hasArgs
  | .op w as, l, d, h => by
    rw [Tr.made] at h
    rw [Tr.hasArgs]
    exact hG w as h
  | .loop k b, l, 0, h => by rw [Tr.made] at h; exact h.elim
  | .loop k b, l, d + 1, h => by
    rw [Tr.made] at h
    rw [Tr.hasArgs]
    exact mades_args hG b (l / 2) d h.2.2
theorem mades_args {G : Str → List Int → Prop} {R : Int → Prop} (hG : ∀ w as, G w as → as ≠ []) : ∀ (b : List Tr) (l d : Nat), mades G R b l d → haveArgs b
  | [], _, _, _ => by rw [haveArgs]; trivial
  | t :: r, l, d, h => by
    rw [mades] at h
    rw [haveArgs]
    exact ⟨Tr.made_args hG t l d h.1, mades_args hG r l d h.2⟩
end
theorem mades_drop {G : Str → List Int → Prop} {R : Int → Prop} : ∀ {b : List Tr} {l d : Nat}, mades G R b l d → mades G R (b.drop 1) l d
  | [], _, _, h => h
  | t :: r, l, d, h => by
    rw [mades] at h
    exact h.2
/-! ### slices of tuples -/
theorem cut_tail (x : V) (xs : List V) : cutV (x :: xs) (some 1) none = xs := by
  unfold cutV
  rw [show HT.sIx (x :: xs).length 0 (some 1) = min 1 (x :: xs).length from HT.sIx_nat _ _ 1, HT.sIx_none, List.length_cons, show min 1 (xs.length + 1) = 1 by omega]
  show (xs.take (xs.length + 1 - 1)) = xs
  rw [Nat.add_sub_cancel]
  exact List.take_length
theorem cut_tail_ne (x : V) (xs : List V) : ¬ (HT.sIx (x :: xs).length 0 (some 1) = 0 ∧ HT.sIx (x :: xs).length (x :: xs).length none = (x :: xs).length) := by
  rw [show HT.sIx (x :: xs).length 0 (some 1) = min 1 (x :: xs).length from HT.sIx_nat _ _ 1, List.length_cons, show min 1 (xs.length + 1) = 1 by omega]
  rintro ⟨h, _⟩
  cases h
theorem cut_one (x : V) (xs : List V) : cutV (x :: xs) (some 1) (some 2) = xs.take 1 := by
  unfold cutV
  rw [show HT.sIx (x :: xs).length 0 (some 1) = min 1 (x :: xs).length from HT.sIx_nat _ _ 1, show HT.sIx (x :: xs).length (x :: xs).length (some 2) = min 2 (x :: xs).length from HT.sIx_nat _ _ 2, List.length_cons, show min 1 (xs.length + 1) = 1 by omega]
  show xs.take (min 2 (xs.length + 1) - 1) = xs.take 1
  cases xs with
  | nil => rfl
  | cons y ys => rw [show min 2 ((y :: ys).length + 1) - 1 = 1 by rw [List.length_cons]; omega]
theorem cut_one_ne (x : V) (xs : List V) : ¬ (HT.sIx (x :: xs).length 0 (some 1) = 0 ∧ HT.sIx (x :: xs).length (x :: xs).length (some 2) = (x :: xs).length) := by
  rw [show HT.sIx (x :: xs).length 0 (some 1) = min 1 (x :: xs).length from HT.sIx_nat _ _ 1, List.length_cons, show min 1 (xs.length + 1) = 1 by omega]
  rintro ⟨h, _⟩
  cases h
theorem flat_ints (ns : List Int) : (ns.map V.int).all flatV = true := by
  induction ns with
  | nil => rfl
  | cons s r ih => exact ih
theorem inV_ints {z : Int} : ∀ {ss : List Int}, inV (.int z) (ss.map V.int) = decide (z ∈ ss)
  | [] => by
    show false = _
    rw [decide_eq_false (List.not_mem_nil)]
  | s :: r => by
    show (s == z || inV (.int z) (r.map V.int)) = _
    rw [inV_ints, Bool.eq_iff_iff, Bool.or_eq_true, decide_eq_true_iff, decide_eq_true_iff, List.mem_cons, beq_iff_eq]
    constructor
    · rintro (h | h)
      · exact .inl h.symm
      · exact .inr h
    · rintro (h | h)
      · exact .inl h.symm
      · exact .inr h
/-! ### promises -/
def spAsg (K : PySem.W.Frag) : Sp := fun vs H Q _ => ∃ (v : V) (w : Str) (as : List Int) (x : Int), vs = [v, .int x] ∧ TrAt K H (.op w as) v ∧ as ≠ [] ∧ ∀ H', Same H H' → Q (.bl (decide (x ∈ asgs w as))) H'
def spLA (K : PySem.W.Frag) (n : Nat) : Sp := fun vs H Q _ => ∃ (v : V) (b : List Tr) (m x : Int), vs = [v, .int m, .int x] ∧ BodyAt K H b v ∧ okB n b ∧ haveArgs b ∧ 0 ≤ m ∧ ∀ H', Same H H' → Q (optV (la x ((exs b).take m.toNat))) H'
def spLW (K : PySem.W.Frag) (n : Nat) : Sp := fun vs H Q _ => ∃ (v : V) (t : Tr) (m x : Int), vs = [v, .int m, .int x] ∧ TrAt K H t v ∧ okB (n + 1) [t] ∧ t.hasArgs ∧ 0 ≤ m ∧ m ≤ t.len ∧ ∀ H', Same H H' → Q (optV (la x (t.ex.take m.toNat))) H'
theorem la_one (x : Int) (w : Str) (as : List Int) : la x [.op w as] = if x ∈ asgs w as then some 0 else none := by
  show (if decide (x ∈ asgs w as) = true then some 0 else none) = _
  by_cases h : x ∈ asgs w as
  · rw [decide_eq_true h, if_pos h, if_pos rfl]
  · rw [decide_eq_false h, if_neg h, if_neg Bool.false_ne_true]
/-- within a loop -/
theorem la_loop (x : Int) (E : List Tr) (k m : Nat) (hE : 0 < E.length) (hm : m ≤ k * E.length) : la x (((List.replicate k E).flatten).take m) =
    match la x (E.take (m % E.length)) with
    | some j => some (m / E.length * E.length + j)
    | none => match m / E.length, la x E with
      | 0, _ => none
      | t + 1, some j => some (t * E.length + j)
      | _ + 1, none => none := by
  have hd := Nat.div_add_mod m E.length
  have hr := Nat.mod_lt m hE
  generalize m / E.length = t at hd
  generalize m % E.length = r at hd hr
  have e : ((List.replicate k E).flatten).take m = (List.replicate t E).flatten ++ E.take r := by
    rw [← hd, Nat.mul_comm]
    by_cases h : t < k
    · exact take_flat E k t r h (Nat.le_of_lt hr)
    · have h1 : k * E.length ≤ t * E.length := Nat.mul_le_mul_right _ (by omega)
      have h2 : t * E.length + r ≤ k * E.length := by rw [← hd, Nat.mul_comm] at hm; exact hm
      have h3 : r = 0 := by omega
      have h4 : t = k := by
        have := Nat.eq_of_mul_eq_mul_right hE (show t * E.length = k * E.length by omega)
        exact this
      subst h3 h4
      rw [Nat.add_zero, take_flat_all, List.take_zero, List.append_nil]
  rw [e, la_append]
  cases la x (E.take r) with
  | some j =>
    show some (((List.replicate t E).flatten).length + j) = _
    rw [flat_len]
  | none => exact la_flat x E t
end Lj
namespace Lj
open PySem PySem.Spec PyProof.Rows L2
theorem vals_snoc : ∀ {xs : List V} {us : List Value} {x : V} {u : Value}, Vals xs us → RelV x u → Vals (xs ++ [x]) (us ++ [u])
  | _, _, _, _, .nil, r => .cons r .nil
  | _, _, _, _, .cons a b, r => .cons a (vals_snoc b r)
theorem vals_rev : ∀ {xs : List V} {us : List Value}, Vals xs us → Vals xs.reverse us.reverse
  | _, _, .nil => .nil
  | _, _, .cons a b => by
    rw [List.reverse_cons, List.reverse_cons]
    exact vals_snoc (vals_rev b) a
end Lj
set_option Elab.async false
set_option linter.all false
set_option maxRecDepth 100000
set_option maxHeartbeats 1000000
namespace Lj
open PySem PySem.Spec PyProof.Rows L2
theorem un1 {k : Nat} {A : Around} (hr : Room k A) : A.units + 1 < cLine := by
  have := hr.un
  omega
theorem ifNN {c A B : Prop} [Decidable c] (h : c) (b : B) : if (!decide c) = true then A else B := by
  rw [decide_eq_true h]
  exact b
/-! ### a walk over a list or a tuple -/
theorem turn_to {P : Program} {w : World} {K : PySem.W.Frag} {tg : Expr} {J J' : It} {fp : List Addr} {it : Addr} {tn : Nat → Heap → Prop} (t : Turn P w K tg J fp it tn) (hg : ∀ i H, J'.go i H → J.go i H) (hy : ∀ i H x H', J'.go i H → J.yld i H x H' → J'.yld i H x H') (hs : ∀ i H, J'.stop i H → J.stop i H) : Turn P w K tg J' fp it tn where
  mem := t.mem
  obj := t.obj
  keep := t.keep
  item := fun X e1 e2 e3 e4 i pins s σ H E I fo st g => wpAny_mono (t.item X e1 e2 e3 e4 i pins s σ H E I fo st (hg i H g)) (fun r s1 ⟨u, eu, q⟩ => ⟨u, eu, wpAny_mono q (fun _ s2 ⟨x, H', I', rx, y, st', nn⟩ => ⟨x, H', I', rx, hy i H x H' g y, st', nn⟩) fun _ _ z => z⟩) fun _ _ z => z
  done := fun X e1 e2 e3 e4 i pins s σ H E I fo st g => t.done X e1 e2 e3 e4 i pins s σ H E I fo st (hs i H g)
  self := t.self
def ItG (G : Hp → Prop) (xs : List V) : It := ⟨fun i H => i < xs.length ∧ G H, fun i H x H' => H' = H ∧ xs[i]? = some x, fun i H => i = xs.length ∧ G H⟩
theorem walk_G2 {G : Hp → Prop} {xs : List V} : Walk (ItG G xs) xs.length G (YAt xs) := ⟨fun i _ hi q => ⟨hi, q⟩, fun _ q => ⟨rfl, q⟩, fun _ _ _ _ _ _ y => y⟩
/-- as long as G holds, xs stands at a, as a list or as a tuple -/
def SqG (K : PySem.W.Frag) (a : Addr) (xs : List V) (G : Hp → Prop) : Prop := (∀ H, G H → SqL K H a xs) ∨ (∀ H, G H → SqT K H a xs)
def iLT (K : PySem.W.Frag) (tl : TE) : TI := fun σ H R => tl σ H fun x H1 => ∃ (a : Addr) (xs : List V) (G : Hp → Prop), x = .ref a ∧ SqG K a xs G ∧ G H1 ∧ R (ItG G xs) H1
theorem pi_LT {X : Cx} {tg l : Expr} {tl : TE} (hl : PE X l tl) : PI X tg l (iLT X.K tl) := by
  refine ⟨fun pins s σ H R I h => thn (hl.run pins s σ H _ I h) fun v s1 ⟨x, H1, I1, r1, a, xs, G, e, sg, g, q⟩ => ?_⟩
  subst e
  cases r1
  have fp : ∀ b ∈ [s1.heap.objs.size], FpOk X pins H1 b := fun b hb => by
    rw [List.mem_singleton.mp hb]
    exact I1.fpOk (Nat.le_refl _) (I1.hok.fresh (Nat.le_refl _))
  have up : ∀ (o : Obj), Inv X pins σ H1 { s1 with heap := s1.heap.push o } := fun o => I1.kept (t' := s1.toks) fun b u e => Heap.get?_push_of_some _ e
  rcases sg with sg | sg
  · obtain ⟨its, rv, p, _⟩ := I1.list (sg H1 g)
    refine wpAny_pyIter_list p.isList ⟨s1.heap.objs.size, [s1.heap.objs.size], _, _, H1, rfl, up _, turn_to (J' := ItG G xs) (turn_list a _) (fun i H ⟨hi, g⟩ => ⟨xs, xs[i], sg H g, List.getElem?_eq_getElem hi⟩) (fun i H x H' ⟨_, g⟩ y => ⟨y.1, y.2 xs (sg H g)⟩) (fun i H ⟨e, g⟩ => ⟨xs, sg H g, Nat.le_of_eq e.symm⟩), ⟨_, Heap.get?_push_size _ rfl, rfl, rfl⟩, fp, q⟩
  · obtain ⟨its, rv, p, _⟩ := I1.tuple (sg H1 g)
    refine wpAny_pyIter_tuple (show s1.heap.IsTuple a its.toArray from p) ⟨s1.heap.objs.size, [s1.heap.objs.size], _, _, H1, rfl, up _, turn_to (J' := ItG G xs) (turn_tuple a _) (fun i H ⟨hi, g⟩ => ⟨xs, xs[i], sg H g, List.getElem?_eq_getElem hi⟩) (fun i H x H' ⟨_, g⟩ y => ⟨y.1, y.2 xs (sg H g)⟩) (fun i H ⟨e, g⟩ => ⟨xs, sg H g, Nat.le_of_eq e.symm⟩), ⟨_, Heap.get?_push_size _ rfl, rfl, rfl⟩, fp, q⟩
theorem pi_tupK {X : Cx} {K : PySem.W.Frag} {tg l : Expr} {tl : TE} (h : X.K = K) (hl : PE X l tl) : PI X tg l (iTup K tl) := h ▸ pi_tup hl
def rListOf (K : PySem.W.Frag) : List V → Hp → VK → Prop := fun xs H Q => ∃ p ys, xs = [.ref p] ∧ (SqL K H p ys ∨ SqT K H p ys) ∧ ∀ l, H l = none → Q (.ref l) (upd H l (.lst ys))
theorem call_list_ofK {X : Cx} {K : PySem.W.Frag} (h : X.K = K) : CallR X (.type "list") (rListOf K) := h ▸ call_list_of
/-! ### tuple * number, also once -/
theorem mul_once (l : Addr) (items : Array Value) (n : Nat) (dd : Option Addr) (sl : Array (Option Value)) (u : Tok) :
    Meets (Builtin.«tuple.__mul__» ⟨[.ref l, .int 1 u], []⟩) (fun _ R s => s.heap.get? l = some { cls := .type "tuple", dict := dd, data := .seq items n, slots := sl } ∧ R (.ok (.ret (Value.ref l))) s) :=
  .of_wp fun prog w A R s h => by
    obtain ⟨hp, g, d, tk, os⟩ := s
    obtain ⟨hl, h⟩ := h
    have f1 := AutoSeq1.idx_int
    have c0 : (decide ((1 : Int) < -(2 ^ 63)) || decide ((1 : Int) ≥ 2 ^ 63)) = false := by decide
    have c1 : (items.isEmpty || (1 : Int) == 1) = true := by cases items.isEmpty <;> rfl
    wp_walk using wpAny_loadPart' hl
    repeat (first
      | (refine wpAny_ite_false (decide_eq_false (by rw [c0]; exact Bool.false_ne_true)) ?_; wp_walk using wpAny_loadPart' hl)
      | (refine wpAny_ite_true (decide_eq_true c1) ?_; wp_walk using wpAny_loadPart' hl))
    exact ⟨_, rfl, h⟩
def rRep1 (K : PySem.W.Frag) : R2 := fun x y H Q => ∃ (l : Addr) (k : Int) (xs : List V), x = .ref l ∧ y = .int k ∧ SqT K H l xs ∧ xs ≠ [] ∧ 1 ≤ k ∧ k ≤ 1000 ∧ xs.length ≤ 1000 ∧ (k = 1 → Q (.ref l) H) ∧ (2 ≤ k → ∀ p, H p = none → Q (.ref p) (upd H p (.tup (List.replicate k.toNat xs).flatten)))
theorem op_rep1 {X : Cx} : OpR X (binaryOp .Mult) (rRep1 X.K) := by
  intro pins s σ H x y v u Q I rx ry h
  obtain ⟨l, k, xs, rfl, rfl, hT, hne, h1, h2, hz, q1, q2⟩ := h
  by_cases c : k = 1
  · subst c
    cases rx
    obtain ⟨t, rfl⟩ := ry
    obtain ⟨its, r, ⟨⟨cls, dd, data, sl⟩, ho, hc, n, hd⟩, hs⟩ := I.tuple hT
    simp only at hc hd
    subst hc hd
    exact wpAny_binaryOp_repeat_ref (T := "tuple") (U := "int") (by decide) ⟨_, ho, rfl⟩ (fun s' => typeIs_int s' 1 t) noFill_tuple_mul F.fills_int_mul F.slot_int_rmul repeat_tuple F.slot_int_index.lookup
      (call_meets F.slot_int_rmul (typeIs_int s 1 t) F.entry_int_rmul (F.args_int_rmul_2 _ _) (int_rmul_tuple 1 t l its.toArray n dd sl)
        ⟨ho, rfl, ⟨_, ho, rfl⟩, call_meets F.slot_tuple_mul ⟨_, ho, rfl⟩ F.entry_tuple_mul (F.args_tuple_mul_2 _ _) (mul_once l its.toArray n dd sl t) ⟨ho, ⟨.ref l, H, I, rfl, q1 rfl⟩⟩⟩)
  · exact op_repT pins s σ H _ _ v u Q I rx ry ⟨l, k, xs, rfl, rfl, hT, hne, by omega, h2, hz, q2 (by omega)⟩
theorem paired_app {α β : Type} {F : α → β → Prop} : ∀ {a c : List α} {b d : List β}, Paired F a b → Paired F c d → Paired F (a ++ c) (b ++ d)
  | _, _, _, _, .nil, s => s
  | _, _, _, _, .cons r t, s => .cons r (paired_app t s)
/-! ### rows of field elements -/
def row (ns : List Int) : Row := fun i => ns.getD i 0
def Fe (p : Int) (ns : List Int) : Prop := ∀ a ∈ ns, 0 ≤ a ∧ a < p
theorem row_get {ns : List Int} {i : Nat} {a : Int} (h : ns[i]? = some a) : row ns i = a := by
  unfold row
  rw [List.getD_eq_getElem?_getD, h]
  rfl
theorem row_at {ns : List Int} {i : Nat} (h : i < ns.length) : ns[i]? = some (row ns i) := by
  unfold row
  rw [List.getD_eq_getElem?_getD, List.getElem?_eq_getElem h]
  rfl
theorem row_out {ns : List Int} {i : Nat} (h : ns.length ≤ i) : row ns i = 0 := by
  unfold row
  rw [List.getD_eq_getElem?_getD, List.getElem?_eq_none h]
  rfl
theorem Fe.row {p : Int} {ns : List Int} (h : Fe p ns) {i : Nat} (hi : i < ns.length) : 0 ≤ row ns i ∧ row ns i < p := h _ (by
  have e := row_at hi
  exact (List.getElem?_eq_some_iff.mp e).2 ▸ List.getElem_mem _)
theorem row_int {ns : List Int} {i : Nat} (h : i < ns.length) : (ns.map V.int)[i]? = some (.int (row ns i)) := by
  rw [List.getElem?_map, row_at h]
  rfl
theorem atI_row {ns : List Int} {i : Nat} (h : i < ns.length) : atI (ns.map V.int) (i : Int) = some (.int (row ns i)) := atI_nat (row_int h)
theorem Fe.mod {p : Int} (hp : 0 < p) (f : Int → Int) (ns : List Int) : Fe p (ns.map fun a => f a % p) := fun a m => by
  obtain ⟨b, _, rfl⟩ := List.mem_map.mp m
  exact ⟨Int.emod_nonneg _ (by omega), Int.emod_lt_of_pos _ hp⟩
theorem row_map {f : Int → Int} {ns : List Int} {i : Nat} (h : i < ns.length) : row (ns.map f) i = f (row ns i) := by
  refine row_get ?_
  rw [List.getElem?_map, row_at h]
  rfl
theorem row_zip {f : Int → Int → Int} {ns ms : List Int} {i : Nat} (h : i < ns.length) (h2 : i < ms.length) : row (List.zipWith f ns ms) i = f (row ns i) (row ms i) := by
  refine row_get ?_
  rw [List.getElem?_zipWith, row_at h, row_at h2]
theorem emod_dvd (p a : Int) : p ∣ a % p - a := by
  rw [Int.emod_def]
  exact ⟨-(a / p), by grind⟩
/-! ### leading equations, in the heap -/
structure Ent where
  c : Nat
  b : Addr
  es : List Int
def EntOk (p : Int) (N : Nat) (H : Hp) (e : Ent) : Prop := H e.b = some (.lst (e.es.map V.int)) ∧ e.es.length = N ∧ Fe p e.es ∧ e.c < N ∧ Begins e.c (row e.es)
def kvE (E : List Ent) : List (Key × V) := E.map fun e => (Sum.inl (e.c : Int), V.ref e.b)
theorem kvE_none {E : List Ent} {c : Nat} : valV (kvE E) (Sum.inl (c : Int)) = none ↔ ∀ e ∈ E, e.c ≠ c := by
  unfold kvE
  induction E with
  | nil => exact ⟨fun _ e m => absurd m List.not_mem_nil, fun _ => rfl⟩
  | cons a E ih =>
    rw [List.map_cons]
    by_cases h : a.c = c
    · rw [valV_pos (p := (Sum.inl (a.c : Int), V.ref a.b)) (by rw [h])]
      exact ⟨(fun z => by cases z), fun z => absurd h (z a List.mem_cons_self)⟩
    · rw [valV_neg (p := (Sum.inl (a.c : Int), V.ref a.b)) (by
        intro z
        have z2 : (a.c : Int) = (c : Int) := Sum.inl.inj z
        omega), ih]
      exact ⟨fun z e m => by
        rcases List.mem_cons.mp m with rfl | m
        · exact h
        · exact z e m, fun z e m => z e (List.mem_cons_of_mem _ m)⟩
theorem kvE_some {E : List Ent} {c : Nat} {v : V} (h : valV (kvE E) (Sum.inl (c : Int)) = some v) : ∃ e ∈ E, e.c = c ∧ v = .ref e.b := by
  unfold kvE at h
  induction E with
  | nil => cases h
  | cons a E ih =>
    rw [List.map_cons] at h
    by_cases k : a.c = c
    · rw [valV_pos (p := (Sum.inl (a.c : Int), V.ref a.b)) (by rw [k])] at h
      cases h
      exact ⟨a, List.mem_cons_self, k, rfl⟩
    · rw [valV_neg (p := (Sum.inl (a.c : Int), V.ref a.b)) (by
        intro z
        have z2 : (a.c : Int) = (c : Int) := Sum.inl.inj z
        omega)] at h
      obtain ⟨e, m, r⟩ := ih h
      exact ⟨e, List.mem_cons_of_mem _ m, r⟩
/-- v kills all rows -/
def Kl (p : Int) (N : Nat) (v : Nat → Int) (R : List (List Int)) : Prop := ∀ ns ∈ R, p ∣ dot N (row ns) v
def KlE (p : Int) (N : Nat) (v : Nat → Int) (E : List Ent) : Prop := ∀ e ∈ E, p ∣ dot N (row e.es) v
theorem KlE.snoc {p : Int} {N : Nat} {v : Nat → Int} {E : List Ent} {e : Ent} : KlE p N v (E ++ [e]) ↔ KlE p N v E ∧ p ∣ dot N (row e.es) v :=
  ⟨fun h => ⟨fun x m => h x (List.mem_append_left _ m), h e (List.mem_append_right _ List.mem_cons_self)⟩, fun h x m => by
    rcases List.mem_append.mp m with m | m
    · exact h.1 x m
    · rw [List.mem_singleton.mp m]
      exact h.2⟩
theorem Kl.snoc {p : Int} {N : Nat} {v : Nat → Int} {R : List (List Int)} {ns : List Int} : Kl p N v (R ++ [ns]) ↔ Kl p N v R ∧ p ∣ dot N (row ns) v :=
  ⟨fun h => ⟨fun x m => h x (List.mem_append_left _ m), h ns (List.mem_append_right _ List.mem_cons_self)⟩, fun h x m => by
    rcases List.mem_append.mp m with m | m
    · exact h.1 x m
    · rw [List.mem_singleton.mp m]
      exact h.2⟩
theorem dot_zero {N : Nat} {e v : Nat → Int} (h : ∀ k, k < N → e k = 0) : dot N e v = 0 := sumF_zero fun k hk => by rw [h k hk, Int.zero_mul]
/-! ### keyword arguments of three, in the reverse order -/
theorem kb3r {K : PySem.W.Frag} {x a b c : Str} {st : Stmt} {f : Addr} {fd : FuncData} (F : Fun K x x st f fd)
    (h : ∀ (kV doc pm : Value) (an : Option Addr) (cdv ct u v w : Value), bindArgs (PySem.W.fnOf x x (defArgs st) (defBody st) (defScope st) .none kV doc pm an cdv ct) ⟨[], [(c, w), (b, v), (a, u)]⟩ = pure [(a, u), (b, v), (c, w)]) :
    KBinds K fd [a, b, c] [c, b, a] (fun us ws => if us.isEmpty then ws.reverse else []) (fun us ws => if us.isEmpty then ws.reverse else []) := by
  obtain ⟨oc, od, kV, doc, pm, an, cdv, ct, osl, rfl, lk, hcd⟩ := F.ex
  refine ⟨fun s us ws _ hl => ?_, fun {vs us zs ws} r rz => ?_⟩
  · cases us with
    | cons u r =>
      rw [show (u :: r).isEmpty = false from rfl, if_neg Bool.false_ne_true] at hl
      cases hl
    | nil =>
      rw [show ([] : List Value).isEmpty = true from rfl, if_pos rfl, List.length_reverse] at hl
      match ws, hl with
      | [_, _, _], _ => exact .of_eq (h ..)
  · cases r with
    | nil =>
      show Vals zs.reverse ws.reverse
      exact vals_rev rz
    | cons _ _ => exact .nil
end Lj
set_option Elab.async false
set_option linter.all false
set_option maxRecDepth 100000
namespace Lj
open PySem PySem.Spec PyProof.Rows L2
/-! ### trees shown -/
mutual
def Tr.datT : Tr → PyData
  | .op w as => .tuple (.str w :: as.map .int)
  | .loop k b => .tuple [.str "loop", .int k, .tuple (datTs b)]
def datTs : List Tr → List PyData
  | [] => []
  | t :: r => t.datT :: datTs r
end
mutual
theorem Tr.dp {K : PySem.W.Frag} {H : Hp} : ∀ (t : Tr) (v : V), TrAt K H t v → Dp K H v t.datT
  | .op w as, v, h => by
    rw [TrAt] at h
    obtain ⟨a, rfl, sq⟩ := h
    rw [Tr.datT]
    exact .tup sq (.cons (.str w) (dp_ints as))
  | .loop k b, v, h => by
    rw [TrAt] at h
    obtain ⟨a, c, vs, rfl, sq, sq2, r⟩ := h
    rw [Tr.datT]
    exact .tup sq (.cons (.str _) (.cons (.int k) (.cons (.tup sq2 (trs_dp b vs r)) .nil)))
theorem trs_dp {K : PySem.W.Frag} {H : Hp} : ∀ (b : List Tr) (vs : List V), TrsAt K H b vs → DpAll K H vs (datTs b)
  | [], vs, h => by
    rw [TrsAt] at h
    rw [h, datTs]
    exact .nil
  | t :: r, vs, h => by
    rw [TrsAt] at h
    obtain ⟨v, us, rfl, a, k⟩ := h
    rw [datTs]
    exact .cons (Tr.dp t v a) (trs_dp r us k)
end
def sb : Nat → Nat
  | 0 => 20000
  | d + 1 => 20000 + 8 * (sb d + 2)
theorem sb_ge : ∀ d, 20000 ≤ sb d
  | 0 => Nat.le_refl _
  | d + 1 => by rw [sb]; omega
/-- short arguments -/
def Short (w : Str) (as : List Int) : Prop := w ∈ W7 ∧ as.length ≤ 3 ∧ ∀ a ∈ as, a.natAbs < 2 ^ 1000
theorem W7_shown {w : Str} (h : w ∈ W7) : (PyData.shown (.str w)).length ≤ 20 := by
  have z : (W7.all fun w => decide ((PyData.shown (.str w)).length ≤ 20)) = true := by decide +kernel
  exact of_decide_eq_true (List.all_eq_true.mp z w h)
mutual
theorem Tr.made_show {G : Str → List Int → Prop} {R : Int → Prop} (hG : ∀ w as, G w as → Short w as) (hR : ∀ k, R k → k.natAbs < 2 ^ 1000) : ∀ (t : Tr) (l d : Nat), l ≤ 8 → t.made G R l d →
    t.datT.showable = true ∧ t.datT.hasDict = false ∧ t.datT.depth ≤ 2 * d + 1 ∧ t.datT.shown.length ≤ sb d
  | .op w as, l, d, hl, h => by
    rw [Tr.made] at h
    obtain ⟨h1, h2, h3⟩ := hG w as h
    obtain ⟨a1, a2, a3, a4, a5⟩ := leaf_all (leaf_ints h3)
    rw [Tr.datT]
    refine ⟨by rw [PyData.showable, PyData.showableAll, PyData.showable, a1]; rfl, by rw [PyData.hasDict, PyData.hasDictAll, PyData.hasDict, a2]; rfl, by rw [PyData.depth, PyData.depthAll, PyData.depth, a3]; exact Nat.succ_le_succ (Nat.zero_le _), ?_⟩
    rw [PyData.shown, PyData.shownAll]
    have z := PySem.tupleText_len_le (PyData.shown (.str w) :: PyData.shownAll (as.map PyData.int))
    rw [List.map_cons, List.sum_cons, List.length_cons, a5] at z
    have z2 := W7_shown h1
    have z3 := sb_ge d
    rw [List.length_map] at z a4
    omega
  | .loop k b, l, 0, _, h => by rw [Tr.made] at h; exact h.elim
  | .loop k b, l, d + 1, hl, h => by
    rw [Tr.made] at h
    obtain ⟨b1, b2, b3, b4, b5⟩ := mades_show hG hR b (l / 2) d (by omega) h.2.2
    obtain ⟨i1, i2, i3, i4⟩ := leaf_int (log_of (hR k h.1) (by decide) (by decide))
    have lp : (PyData.shown (.str "loop")).length ≤ 20 := by decide +kernel
    have y := PySem.tupleText_len_le (PyData.shownAll (datTs b))
    have hb := h.2.1
    rw [Tr.datT]
    refine ⟨by rw [PyData.showable, PyData.showableAll, PyData.showable, PyData.showableAll, i1, PyData.showableAll, PyData.showable, b1, PyData.showableAll]; rfl,
      by rw [PyData.hasDict, PyData.hasDictAll, PyData.hasDict, PyData.hasDictAll, i2, PyData.hasDictAll, PyData.hasDict, b2, PyData.hasDictAll]; rfl,
      by rw [PyData.depth, PyData.depthAll, PyData.depth, PyData.depthAll, i3, PyData.depthAll, PyData.depth, PyData.depthAll]; omega, ?_⟩
    rw [PyData.shown, PyData.shownAll, PyData.shownAll, PyData.shownAll, PyData.shownAll]
    have z := PySem.tupleText_len_le [PyData.shown (.str "loop"), PyData.shown (.int k), PyData.shown (.tuple (datTs b))]
    have ez : (PyData.shown (.tuple (datTs b))) = tupleText (PyData.shownAll (datTs b)) := by rw [PyData.shown]
    rw [List.map_cons, List.map_cons, List.map_cons, List.map_nil, List.sum_cons, List.sum_cons, List.sum_cons, List.sum_nil, ez] at z
    rw [show ([PyData.shown (.str "loop"), PyData.shown (.int k), tupleText (PyData.shownAll (datTs b))] : List Str).length = 3 from rfl] at z
    rw [ez, sb]
    have m1 : b.length * sb d ≤ 4 * sb d := Nat.mul_le_mul_right _ (by omega)
    have := sb_ge d
    omega
theorem mades_show {G : Str → List Int → Prop} {R : Int → Prop} (hG : ∀ w as, G w as → Short w as) (hR : ∀ k, R k → k.natAbs < 2 ^ 1000) : ∀ (b : List Tr) (l d : Nat), l ≤ 8 → mades G R b l d →
    PyData.showableAll (datTs b) = true ∧ PyData.hasDictAll (datTs b) = false ∧ PyData.depthAll (datTs b) ≤ 2 * d + 1 ∧ ((PyData.shownAll (datTs b)).map (·.length)).sum ≤ b.length * sb d ∧ (PyData.shownAll (datTs b)).length = b.length
  | [], l, d, _, _ => by
    rw [datTs]
    exact ⟨by rw [PyData.showableAll], by rw [PyData.hasDictAll], by rw [PyData.depthAll]; exact Nat.zero_le _, by rw [PyData.shownAll]; exact Nat.zero_le _, by rw [PyData.shownAll]; rfl⟩
  | t :: r, l, d, hl, h => by
    rw [mades] at h
    obtain ⟨a1, a2, a3, a4⟩ := Tr.made_show hG hR t l d hl h.1
    obtain ⟨b1, b2, b3, b4, b5⟩ := mades_show hG hR r l d hl h.2
    rw [datTs]
    refine ⟨by rw [PyData.showableAll, a1, b1]; rfl, by rw [PyData.hasDictAll, a2, b2]; rfl, by rw [PyData.depthAll]; omega, ?_, by rw [PyData.shownAll, List.length_cons, b5, List.length_cons]⟩
    rw [PyData.shownAll, List.map_cons, List.sum_cons, List.length_cons, Nat.succ_mul]
    omega
end
/-! ### reads among what is executed -/
def rc (E : List Tr) : Int := (((E.map Tr.word).count ("read" : Str) : Nat) : Int)
theorem rc_nil : rc [] = 0 := rfl
theorem rc_append (a b : List Tr) : rc (a ++ b) = rc a + rc b := by
  unfold rc
  rw [List.map_append, List.count_append, Int.natCast_add]
theorem rc_exs {b : List Tr} {n : Nat} (h : wfs b n) : rc (exs b) = cnts "read" b := exs_cnt "read" b n h
theorem rc_ex {t : Tr} {n : Nat} (h : t.wf n) : rc t.ex = t.cnt "read" := Tr.ex_cnt "read" t n h
theorem rc_flat (xs : List Tr) (n : Nat) : rc (List.replicate n xs).flatten = n * rc xs := by
  unfold rc
  rw [count_flat, Int.natCast_mul]
theorem rc_loop (E : List Tr) (k m : Nat) (hE : 0 < E.length) (hm : m < k * E.length) : rc (((List.replicate k E).flatten).take m) = ((m / E.length : Nat) : Int) * rc E + rc (E.take (m % E.length)) := by
  have hd := Nat.div_add_mod m E.length
  have hr := Nat.mod_lt m hE
  have ht : m / E.length < k := (Nat.div_lt_iff_lt_mul hE).mpr hm
  generalize m / E.length = t at hd ht
  generalize m % E.length = r at hd hr
  rw [← hd, Nat.mul_comm, take_flat E k t r ht (Nat.le_of_lt hr), rc_append, rc_flat]
theorem rc_nn (E : List Tr) : 0 ≤ rc E := Int.natCast_nonneg _
theorem rc_le (E : List Tr) : rc E ≤ E.length := by
  unfold rc
  have := List.count_le_length (a := ("read" : Str)) (l := E.map Tr.word)
  rw [List.length_map] at this
  omega
def spRB (K : PySem.W.Frag) (n : Nat) : Sp := fun vs H Q _ => ∃ (v : V) (b : List Tr) (m : Int), vs = [v, .int m] ∧ BodyAt K H b v ∧ okB n b ∧ 0 ≤ m ∧ ∀ H', Same H H' → Q (.int (rc ((exs b).take m.toNat))) H'
def spRW (K : PySem.W.Frag) (n : Nat) : Sp := fun vs H Q _ => ∃ (v : V) (t : Tr) (m : Int), vs = [v, .int m] ∧ TrAt K H t v ∧ okB (n + 1) [t] ∧ 0 ≤ m ∧ m < t.len ∧ ∀ H', Same H H' → Q (.int (rc (t.ex.take m.toNat))) H'
end Lj
set_option Elab.async false
set_option linter.all false
set_option maxRecDepth 100000
namespace Lj
open PySem PySem.Spec PyProof.Rows L2
theorem wfs_take {b : List Tr} {n i : Nat} (h : wfs b n) : wfs (b.take i) n := wfs_all fun t m => by
  obtain ⟨j, hj, e⟩ := List.mem_iff_getElem.mp (List.mem_of_mem_take m)
  exact wfs_get (i := j) h (by rw [List.getElem?_eq_getElem hj, e])
theorem flat_takeL {b : List Tr} {i : Nat} {t : Tr} (e : b[i]? = some t) : exs (b.take (i + 1)) = exs (b.take i) ++ t.ex := by
  rw [exs_map, exs_map, map_next e, List.flatten_append, List.flatten_cons, List.flatten_nil, List.append_nil]
theorem lens_nextL {b : List Tr} {i : Nat} {t : Tr} (e : b[i]? = some t) : lens (b.take (i + 1)) = lens (b.take i) + t.len := by rw [lens_map, lens_map, sum_next e]
theorem exs_split (b : List Tr) (i : Nat) : exs b = exs (b.take i) ++ exs (b.drop i) := by rw [exs_map, exs_map, exs_map, ← List.flatten_append, ← List.map_append, List.take_append_drop]
theorem lens_split (b : List Tr) (i : Nat) : lens b = lens (b.take i) + lens (b.drop i) := by rw [lens_map, lens_map, lens_map, ← List.sum_append, ← List.map_append, List.take_append_drop]
theorem wfs_drop {b : List Tr} {n i : Nat} (h : wfs b n) : wfs (b.drop i) n := wfs_all fun t m => by
  obtain ⟨j, hj, e⟩ := List.mem_iff_getElem.mp (List.mem_of_mem_drop m)
  exact wfs_get (i := j) h (by rw [List.getElem?_eq_getElem hj, e])
/-! ### paths -/
/-- ps leads into b to the instruction t, the step st of b is the step r of t -/
inductive PT : List Tr → List Int → Tr → Int → Int → Prop
  | here {b : List Tr} {i : Nat} {t : Tr} {r : Int} (e : b[i]? = some t) : PT b [(i : Int)] t r (lens (b.take i) + r)
  | into {b b' : List Tr} {i : Nat} {k turn r st : Int} {t : Tr} {ps : List Int} (e : b[i]? = some (.loop k b')) (h0 : 0 ≤ turn) (h1 : turn < k) (p : PT b' ps t r st) : PT b ((i : Int) :: turn :: ps) t r (lens (b.take i) + (turn * lens b' + st))
theorem PT.deeper {b : List Tr} {ps : List Int} {t : Tr} {r st : Int} (p : PT b ps t r st) : ∀ {k turn r' : Int} {b' : List Tr} {j : Nat} {t' : Tr}, t = .loop k b' → 0 ≤ turn → turn < k → b'[j]? = some t' → r = turn * lens b' + (lens (b'.take j) + r') → PT b (ps ++ [turn, (j : Int)]) t' r' st := by
  induction p with
  | here e =>
    intro k turn r' b' j t' et h0 h1 ej er
    subst et er
    exact .into e h0 h1 (.here ej)
  | into e h0 h1 p ih =>
    intro k turn r' b' j t' et g0 g1 ej er
    exact .into e h0 h1 (ih et g0 g1 ej er)
theorem get_flat {α : Type} (E : List α) (k t r : Nat) (ht : t < k) (hr : r < E.length) : ((List.replicate k E).flatten)[t * E.length + r]? = E[r]? := by
  have h1 := take_flat E k t (r + 1) ht hr
  have h2 : (((List.replicate k E).flatten).take (t * E.length + (r + 1)))[t * E.length + r]? = ((List.replicate t E).flatten ++ E.take (r + 1))[t * E.length + r]? := by rw [h1]
  rw [List.getElem?_take_of_lt (by omega), List.getElem?_append_right (by rw [flat_len]; omega), flat_len, Nat.add_sub_cancel_left, List.getElem?_take_of_lt (by omega)] at h2
  exact h2
theorem PT.step {b : List Tr} {ps : List Int} {t : Tr} {r st : Int} (p : PT b ps t r st) : ∀ {n : Nat}, wfs b n → 0 ≤ r → r < t.len → 0 ≤ st ∧ st < lens b ∧ (exs b)[st.toNat]? = t.ex[r.toNat]? := by
  induction p with
  | @here b i t r e =>
    intro n h r0 r1
    have el := exs_len (b.take i) n (wfs_take h)
    have tl := Tr.ex_len t n (wfs_get h e)
    have l0 := (lens_bd _ n (wfs_take (i := i) h)).1
    have l2 := lens_nextL e
    have l3 := lens_split b (i + 1)
    have l4 := (lens_bd _ n (wfs_drop (i := i + 1) h)).1
    refine ⟨by omega, by omega, ?_⟩
    rw [exs_split b (i + 1), flat_takeL e, List.append_assoc, List.getElem?_append_right (by omega), List.getElem?_append_left (by omega)]
    congr 1
    omega
  | @into b b' i k turn r st t ps e h0 h1 p ih =>
    intro n h r0 r1
    have wt := wfs_get h e
    cases n with
    | zero => rw [Tr.wf] at wt; exact wt.elim
    | succ n =>
      have wt2 := wt
      rw [Tr.wf] at wt
      obtain ⟨s0, s1, s2⟩ := ih wt.2.2.2 r0 r1
      have el := exs_len (b.take i) _ (wfs_take h)
      have eb := exs_len b' n wt.2.2.2
      have tl := Tr.ex_len (.loop k b') _ wt2
      have l0 := (lens_bd _ _ (wfs_take (i := i) h)).1
      have l2 := lens_nextL e
      have l3 := lens_split b (i + 1)
      have l4 := (lens_bd _ _ (wfs_drop (i := i + 1) h)).1
      rw [Tr.len] at l2 tl
      have m0 : 0 ≤ turn * lens b' := Int.mul_nonneg h0 (by omega)
      have m1 : turn * lens b' + lens b' ≤ k * lens b' := by
        have := Int.mul_le_mul_of_nonneg_right (show turn + 1 ≤ k by omega) (show 0 ≤ lens b' by omega)
        rw [Int.add_mul, Int.one_mul] at this
        exact this
      refine ⟨by omega, by omega, ?_⟩
      rw [exs_split b (i + 1), flat_takeL e, List.append_assoc, List.getElem?_append_right (by omega), List.getElem?_append_left (by omega), ← s2, Tr.ex]
      have ix : (lens (b.take i) + (turn * lens b' + st)).toNat - (exs (b.take i)).length = turn.toNat * (exs b').length + st.toNat := by
        have : ((turn.toNat * (exs b').length : Nat) : Int) = turn * lens b' := by
          rw [Int.natCast_mul, eb]
          congr 1
          omega
        omega
      rw [ix]
      exact get_flat (exs b') k.toNat turn.toNat st.toNat (by omega) (by omega)
/-! ### slices of bodies -/
theorem TrsAt.take {K : PySem.W.Frag} {H : Hp} : ∀ {b : List Tr} {vs : List V} (i : Nat), TrsAt K H b vs → TrsAt K H (b.take i) (vs.take i)
  | b, vs, 0, _ => TrsAt.nil
  | [], vs, i + 1, h => by
    rw [TrsAt] at h
    subst h
    exact TrsAt.nil
  | t :: r, vs, i + 1, h => by
    rw [TrsAt] at h
    obtain ⟨v, us, rfl, a, k⟩ := h
    rw [List.take_succ_cons, List.take_succ_cons, TrsAt]
    exact ⟨v, _, rfl, a, TrsAt.take i k⟩
theorem TrsAt.drop {K : PySem.W.Frag} {H : Hp} : ∀ {b : List Tr} {vs : List V} (i : Nat), TrsAt K H b vs → TrsAt K H (b.drop i) (vs.drop i)
  | b, vs, 0, h => h
  | [], vs, i + 1, h => by
    rw [TrsAt] at h
    subst h
    exact TrsAt.nil
  | t :: r, vs, i + 1, h => by
    rw [TrsAt] at h
    obtain ⟨v, us, rfl, a, k⟩ := h
    exact TrsAt.drop i k
theorem cut_to (xs : List V) (i : Nat) : cutV xs none (some (i : Int)) = xs.take i := by
  unfold cutV
  rw [HT.sIx_none, HT.sIx_nat, List.drop_zero, Nat.sub_zero]
  by_cases h : i ≤ xs.length
  · rw [Nat.min_eq_left h]
  · rw [Nat.min_eq_right (by omega), List.take_length, List.take_of_length_le (by omega)]
theorem cut_mid (xs : List V) (i : Nat) (h : i < xs.length) : cutV xs (some (i : Int)) (some ((i : Int) + 1)) = (xs.drop i).take 1 := by
  unfold cutV
  rw [HT.sIx_nat, show ((i : Int) + 1) = ((i + 1 : Nat) : Int) from rfl, HT.sIx_nat, Nat.min_eq_left (Nat.le_of_lt h), Nat.min_eq_left h]
  congr 1
  omega
theorem cut_whole (xs : List V) (lo hi : Option Int) (h : HT.sIx xs.length 0 lo = 0 ∧ HT.sIx xs.length xs.length hi = xs.length) : cutV xs lo hi = xs := by
  unfold cutV
  rw [h.1, h.2, List.drop_zero, Nat.sub_zero, List.take_length]
theorem body_cut {K : PySem.W.Frag} {H : Hp} {b c : List Tr} {a : Addr} {vs : List V} {lo hi : Option Int} {Q : V → Hp → Prop} (sq : SqT K H a vs) (tr : TrsAt K H b vs) (tc : TrsAt K H c (cutV vs lo hi)) (q : ∀ v' H', Same H H' → BodyAt K H' c v' → Q v' H') : rSlA K (.ref a) lo hi H Q := by
  refine ⟨a, vs, rfl, sq, fun h => ?_, fun _ p np => ?_⟩
  · rw [cut_whole vs lo hi h] at tc
    exact q _ H (Same.refl H) ⟨a, vs, rfl, sq, tc⟩
  · exact q _ _ (same_new np) ⟨p, _, rfl, SqT.of upd_same, TrsAt.kt (Kt.same (same_new np)) _ _ tc⟩
/-! ### whether a register is assigned at all -/
mutual
def Tr.nam (x : Int) : Tr → Bool
  | .op w as => decide (x ∈ asgs w as)
  | .loop k b => decide (0 < k) && nams x b
def nams (x : Int) : List Tr → Bool
  | [] => false
  | t :: r => t.nam x || nams x r
end
theorem la_none (x : Int) : ∀ {E : List Tr}, la x E = none ↔ ∀ t ∈ E, t.asg x = false
  | [] => by
    constructor
    · intro _ t m
      cases m
    · intro _
      rfl
  | t :: r => by
    have ih := la_none x (E := r)
    show (match la x r with | some j => some (j + 1) | none => if t.asg x = true then some 0 else none) = none ↔ _
    cases h : la x r with
    | some j =>
      constructor
      · intro z
        cases z
      · intro z
        have := ih.mpr fun u m => z u (List.mem_cons_of_mem _ m)
        rw [h] at this
        cases this
    | none =>
      have h2 := ih.mp h
      show (if t.asg x = true then some 0 else none) = none ↔ _
      by_cases g : t.asg x = true
      · rw [if_pos g]
        constructor
        · intro z
          cases z
        · intro z
          rw [z t List.mem_cons_self] at g
          cases g
      · rw [if_neg g]
        constructor
        · intro _ u m
          rcases List.mem_cons.mp m with rfl | m
          · exact Bool.eq_false_iff.mpr g
          · exact h2 u m
        · intro _
          rfl
mutual
theorem Tr.nam_iff (x : Int) : ∀ (t : Tr) (n : Nat), t.wf n → (t.nam x = false ↔ ∀ u ∈ t.ex, u.asg x = false)
  | .op w as, n, _ => by
    rw [Tr.nam, Tr.ex]
    constructor
    · intro h u m
      rw [List.mem_singleton.mp m]
      exact h
    · intro h
      exact h _ (List.mem_singleton.mpr rfl)
  | .loop k b, 0, h => by rw [Tr.wf] at h; exact h.elim
  | .loop k b, n + 1, h => by
    rw [Tr.wf] at h
    have ih := nams_iff x b n h.2.2.2
    rw [Tr.nam, Tr.ex]
    constructor
    · intro z u m
      obtain ⟨xs, m1, m2⟩ := List.mem_flatten.mp m
      obtain ⟨m3, m4⟩ := List.mem_replicate.mp m1
      rw [m4] at m2
      rw [decide_eq_true (show 0 < k by omega), Bool.true_and] at z
      exact ih.mp z u m2
    · intro z
      by_cases g : 0 < k
      · rw [decide_eq_true g, Bool.true_and]
        refine ih.mpr fun u m => z u (List.mem_flatten.mpr ⟨exs b, List.mem_replicate.mpr ⟨by omega, rfl⟩, m⟩)
      · rw [decide_eq_false g, Bool.false_and]
theorem nams_iff (x : Int) : ∀ (b : List Tr) (n : Nat), wfs b n → (nams x b = false ↔ ∀ u ∈ exs b, u.asg x = false)
  | [], n, _ => by
    rw [nams, exs]
    constructor
    · intro _ u m
      cases m
    · intro _
      rfl
  | t :: r, n, h => by
    rw [wfs] at h
    have h1 := Tr.nam_iff x t n h.1
    have h2 := nams_iff x r n h.2
    rw [nams, exs, Bool.or_eq_false_iff, h1, h2]
    constructor
    · rintro ⟨a, b⟩ u m
      rcases List.mem_append.mp m with m | m
      · exact a u m
      · exact b u m
    · intro z
      exact ⟨fun u m => z u (List.mem_append.mpr (.inl m)), fun u m => z u (List.mem_append.mpr (.inr m))⟩
end
theorem la_get (x : Int) : ∀ {E : List Tr} {j : Nat}, la x E = some j → ∃ t, E[j]? = some t ∧ t.asg x = true
  | [], j, h => by cases h
  | t :: r, j, h => by
    have h : (match la x r with | some j => some (j + 1) | none => if t.asg x = true then some 0 else none) = some j := h
    cases e : la x r with
    | some i =>
      rw [e] at h
      cases h
      obtain ⟨u, h1, h2⟩ := la_get x e
      exact ⟨u, h1, h2⟩
    | none =>
      rw [e] at h
      have h : (if t.asg x = true then some 0 else none) = some j := h
      by_cases g : t.asg x = true
      · rw [if_pos g] at h
        cases h
        exact ⟨t, rfl, g⟩
      · rw [if_neg g] at h
        cases h
theorem la_ltL (x : Int) {E : List Tr} {j : Nat} (h : la x E = some j) : j < E.length := by
  obtain ⟨t, h1, _⟩ := la_get x h
  exact (List.getElem?_eq_some_iff.mp h1).1
/-- just behind a step that assigns it, it is this step -/
theorem la_at (x : Int) {E : List Tr} {j : Nat} {t : Tr} (e : E[j]? = some t) (a : t.asg x = true) : la x (E.take (j + 1)) = some j := by
  rw [List.take_add_one, e, la_append]
  have : la x (some t).toList = some 0 := by
    show (if t.asg x = true then some 0 else none) = some 0
    rw [if_pos a]
  rw [this]
  have l := (List.getElem?_eq_some_iff.mp e).1
  show some ((E.take j).length + 0) = some j
  rw [List.length_take]
  congr 1
  omega
end Lj
namespace Lj
open PySem PySem.Spec PyProof.Rows L2
mutual
theorem Tr.args_in : ∀ (t : Tr) (n : Nat), t.wf n → t.hasArgs → ∀ u ∈ t.ex, u.hasArgs
  | .op w as, n, _, h => by
    rw [Tr.ex]
    intro u m
    rw [List.mem_singleton.mp m]
    exact h
  | .loop k b, 0, h, _ => by rw [Tr.wf] at h; exact h.elim
  | .loop k b, n + 1, h, a => by
    rw [Tr.wf] at h
    rw [Tr.hasArgs] at a
    rw [Tr.ex]
    intro u m
    obtain ⟨xs, m1, m2⟩ := List.mem_flatten.mp m
    rw [(List.mem_replicate.mp m1).2] at m2
    exact exs_args b n h.2.2.2 a u m2
theorem exs_args : ∀ (b : List Tr) (n : Nat), wfs b n → haveArgs b → ∀ u ∈ exs b, u.hasArgs
  | [], _, _, _ => by rw [exs]; intro u m; cases m
  | t :: r, n, h, a => by
    rw [wfs] at h
    rw [haveArgs] at a
    rw [exs]
    intro u m
    rcases List.mem_append.mp m with m | m
    · exact Tr.args_in t n h.1 a.1 u m
    · exact exs_args r n h.2 a.2 u m
end
theorem args_in {b : List Tr} {n j : Nat} {z : Str} {as : List Int} (a : haveArgs b) (h : wfs b n) (e : (exs b)[j]? = some (.op z as)) : as ≠ [] := by
  have := exs_args b n h a _ (List.mem_of_getElem? e)
  rw [Tr.hasArgs] at this
  exact this
end Lj
set_option Elab.async false
namespace K02
structure EI (p a hi hs lo ls : Int) : Prop where
  lo1 : 1 ≤ lo
  lop : lo ≤ p
  hi1 : 1 ≤ hi
  hip : hi ≤ p
  cop : ∀ d : Int, d ∣ hi → d ∣ lo → d ∣ 1
  eh : ∃ m, hi = a * hs + p * m
  el : ∃ m, lo = a * ls + p * m
theorem EI.start {p a : Int} (h0 : 0 < a) (h1 : a < p) (c : ∀ d : Int, d ∣ p → d ∣ a → d ∣ 1) : EI p a p 0 a 1 :=
  ⟨by omega, by omega, by omega, by omega, c, ⟨1, by rw [Int.mul_zero, Int.mul_one, Int.zero_add]⟩, ⟨0, by rw [Int.mul_one, Int.mul_zero, Int.add_zero]⟩⟩
theorem EI.step {p a hi hs lo ls : Int} (e : EI p a hi hs lo ls) (h : 1 < lo) : EI p a lo ls (hi - hi / lo * lo) (hs - hi / lo * ls) ∧ (hi - hi / lo * lo).toNat < lo.toNat := by
  have em : hi - hi / lo * lo = hi % lo := by rw [Int.emod_def, Int.mul_comm]
  have m0 := Int.emod_nonneg hi (show lo ≠ 0 by omega)
  have m1 := Int.emod_lt_of_pos hi (show 0 < lo by omega)
  have l1 := e.lop
  have nz : hi - hi / lo * lo ≠ 0 := fun z => by
    have d : lo ∣ hi := ⟨hi / lo, by rw [Int.mul_comm]; omega⟩
    have d1 := e.cop lo d (Int.dvd_refl _)
    have d2 := Int.le_of_dvd (by decide) d1
    omega
  refine ⟨⟨by omega, by omega, by omega, by omega, fun d d1 d2 => e.cop d ?_ d1, e.el, ?_⟩, by omega⟩
  · have z : hi = (hi - hi / lo * lo) + hi / lo * lo := by omega
    rw [z]
    exact Int.dvd_add d2 (Int.dvd_mul_of_dvd_right d1)
  · obtain ⟨m, hm⟩ := e.eh
    obtain ⟨n, hn⟩ := e.el
    refine ⟨m - hi / lo * n, ?_⟩
    generalize hi / lo = q
    rw [hm, hn]
    grind
theorem EI.done {p a hi hs lo ls : Int} (e : EI p a hi hs lo ls) (h : ¬ 1 < lo) (hp : 1 < p) : 0 < ls % p ∧ ls % p < p ∧ (ls % p * a) % p = 1 := by
  obtain ⟨n, hn⟩ := e.el
  have l1 := e.lo1
  have l2 : lo = 1 := by omega
  have r0 := Int.emod_nonneg ls (show p ≠ 0 by omega)
  have r1 := Int.emod_lt_of_pos ls (show 0 < p by omega)
  have r2 : (ls % p * a) % p = 1 := by
    rw [Int.mul_emod, Int.emod_emod, ← Int.mul_emod]
    have z : ls * a = 1 + p * (-n) := by grind
    rw [z, Int.add_mul_emod_self_left]
    exact Int.emod_eq_of_lt (by decide) hp
  refine ⟨?_, r1, r2⟩
  by_cases z : ls % p = 0
  · rw [z, Int.zero_mul, Int.zero_emod] at r2
    cases r2
  · omega
theorem inv_uniq {p a x y : Int} (x0 : 0 < x) (x1 : x < p) (y0 : 0 < y) (y1 : y < p) (hx : x * a % p = 1) (hy : y * a % p = 1) : x = y := by
  have h1 : x * (y * a) % p = x := by
    rw [Int.mul_emod, hy, Int.mul_one, Int.emod_emod]
    exact Int.emod_eq_of_lt (by omega) x1
  have h2 : y * (x * a) % p = y := by
    rw [Int.mul_emod, hx, Int.mul_one, Int.emod_emod]
    exact Int.emod_eq_of_lt (by omega) y1
  have z : x * (y * a) = y * (x * a) := by grind
  rw [z] at h1
  exact h1.symm.trans h2
/-- no divisor but 1 in common -/
def Cop (p a : Int) : Prop := ∀ d : Int, d ∣ p → d ∣ a → d ∣ 1
theorem cop_of_inv {p a x : Int} (h : x * a % p = 1) : Cop p a := fun d d1 d2 => by
  have z : (1 : Int) = x * a - p * (x * a / p) := by
    rw [← h]
    exact Int.emod_def _ _
  rw [z]
  exact Int.dvd_sub (Int.dvd_mul_of_dvd_right d2) (Int.dvd_mul_of_dvd_left d1)
theorem cop_of_gcd {p a : Nat} (h : Nat.gcd a p = 1) : Cop (p : Int) (a : Int) := fun d d1 d2 => by
  have z : d ∣ ((Int.gcd (a : Int) (p : Int) : Nat) : Int) := Int.dvd_coe_gcd d2 d1
  have z2 : Int.gcd (a : Int) (p : Int) = 1 := by
    show Nat.gcd (a : Int).natAbs (p : Int).natAbs = 1
    exact h
  rw [z2] at z
  exact z
def primes : List Nat := [2, 2, 3, 3, 5, 7, 7, 11, 13, 97, 251, 9973, 10007]
theorem primes_ok : (primes.all fun q => (List.range q).all fun c => c == 0 || Nat.gcd c q == 1) = true := by decide +kernel
theorem cop_prime {q c : Int} (hq : q ∈ primes.map (fun n : Nat => (n : Int))) (h0 : 0 < c) (h1 : c < q) : Cop q c := by
  obtain ⟨n, hn, rfl⟩ := List.mem_map.mp hq
  have k := List.all_eq_true.mp (List.all_eq_true.mp primes_ok n hn) c.toNat (List.mem_range.mpr (by omega))
  have e : c = ((c.toNat : Nat) : Int) := by omega
  rw [e]
  refine cop_of_gcd ?_
  rcases Bool.or_eq_true_iff.mp k with k | k
  · have := eq_of_beq k
    omega
  · exact eq_of_beq k
theorem prime_bd {q : Int} (hq : q ∈ primes.map (fun n : Nat => (n : Int))) : 1 < q ∧ q ≤ 10007 := by
  obtain ⟨n, hn, rfl⟩ := List.mem_map.mp hq
  have : (primes.all fun q => decide (1 < q) && decide (q ≤ 10007)) = true := by decide
  have k := List.all_eq_true.mp this n hn
  rw [Bool.and_eq_true] at k
  have k1 := of_decide_eq_true k.1
  have k2 := of_decide_eq_true k.2
  omega
/-- the inverse of a product -/
theorem inv_mul {p c b x y : Int} (hp : 1 < p) (hx : x * c % p = 1) (hy : y * b % p = 1) : (x * y % p) * (c * b % p) % p = 1 ∧ 0 < x * y % p ∧ x * y % p < p ∧ 0 < c * b % p ∧ c * b % p < p := by
  have h : (x * y % p) * (c * b % p) % p = 1 := by
    rw [← Int.mul_emod]
    have z : x * y * (c * b) = (x * c) * (y * b) := by grind
    rw [z, Int.mul_emod, hx, hy]
    exact Int.emod_eq_of_lt (by decide) hp
  have a0 := Int.emod_nonneg (x * y) (show p ≠ 0 by omega)
  have a1 := Int.emod_lt_of_pos (x * y) (show 0 < p by omega)
  have b0 := Int.emod_nonneg (c * b) (show p ≠ 0 by omega)
  have b1 := Int.emod_lt_of_pos (c * b) (show 0 < p by omega)
  have na : x * y % p ≠ 0 := fun z => by
    rw [z, Int.zero_mul, Int.zero_emod] at h
    cases h
  have nb : c * b % p ≠ 0 := fun z => by
    rw [z, Int.mul_zero, Int.zero_emod] at h
    cases h
  exact ⟨h, by omega, a1, by omega, b1⟩
theorem mul_cop {p c b r : Int} (hp : 1 < p) (hr : r * c % p = 1) (b0 : 0 < b) (b1 : b < p) (cb : Cop p b) : 0 < c * b % p ∧ c * b % p < p ∧ Cop p (c * b % p) := by
  have m0 := Int.emod_nonneg (c * b) (show p ≠ 0 by omega)
  have m1 := Int.emod_lt_of_pos (c * b) (show 0 < p by omega)
  have er : r * c = 1 + p * (r * c / p) := by
    have := Int.emod_def (r * c) p
    omega
  have em : c * b = c * b % p + p * (c * b / p) := by
    have := Int.emod_def (c * b) p
    omega
  have key : ∀ d : Int, d ∣ p → d ∣ c * b % p → d ∣ b := fun d d1 d2 => by
    have h1 : d ∣ c * b := by
      rw [em]
      exact Int.dvd_add d2 (Int.dvd_mul_of_dvd_left d1)
    have h2 : b = r * (c * b) - p * (r * c / p * b) := by
      have : r * (c * b) = (r * c) * b := by grind
      rw [this]
      generalize r * c / p = k at er
      rw [er]
      grind
    rw [h2]
    exact Int.dvd_sub (Int.dvd_mul_of_dvd_right h1) (Int.dvd_mul_of_dvd_left d1)
  refine ⟨?_, m1, fun d d1 d2 => cb d d1 (key d d1 d2)⟩
  by_cases z : c * b % p = 0
  · have h := key p (Int.dvd_refl p) (by rw [z]; exact Int.dvd_zero p)
    have := Int.le_of_dvd b0 h
    omega
  · omega
end K02
set_option Elab.async false
set_option pp.maxSteps 500
set_option pp.deepTerms.threshold 8
set_option pp.deepTerms false
set_option linter.all false
set_option maxRecDepth 100000
namespace K04
open PySem PySem.Spec PyProof.Rows L2 Lj
def topS (i : Nat) : Stmt := PySem.Challenge.pw_leastjournal_k04_weights.main.body.getD i (.Pass ⟨0, 0, 0, 0⟩)
abbrev sInverse : Stmt := topS 1
theorem scInverse : FnScope ["p", "a", "high", "high_share", "low", "low_share", "quotient"] ["p", "a"] (defScope sInverse) := ⟨rfl, rfl, rfl, by decide +kernel, rfl, by decide +kernel, by decide +kernel⟩
abbrev sWeights : Stmt := topS 2
theorem scWeights : FnScope ["p", "rows", "row", "leading", "found", "column", "equation", "later", "k"] ["p", "rows", "row"] (defScope sWeights) := ⟨rfl, rfl, rfl, by decide +kernel, rfl, by decide +kernel, by decide +kernel⟩
abbrev sEquations : Stmt := topS 3
theorem scEquations : FnScope ["rows", "row", "place", "known"] ["rows", "row"] (defScope sEquations) := ⟨rfl, rfl, rfl, by decide +kernel, rfl, by decide +kernel, by decide +kernel⟩
abbrev sEchelon : Stmt := topS 4
theorem scEchelon : FnScope ["p", "rows", "leading", "row", "rest", "column"] ["p", "rows"] (defScope sEchelon) := ⟨rfl, rfl, rfl, by decide +kernel, rfl, by decide +kernel, by decide +kernel⟩
abbrev sTimes : Stmt := topS 5
theorem scTimes : FnScope ["p", "factor", "row", "a"] ["p", "factor", "row"] (defScope sTimes) := ⟨rfl, rfl, rfl, by decide +kernel, rfl, by decide +kernel, by decide +kernel⟩
abbrev sLess : Stmt := topS 6
theorem scLess : FnScope ["p", "row", "factor", "other", "a", "b"] ["p", "row", "factor", "other"] (defScope sLess) := ⟨rfl, rfl, rfl, by decide +kernel, rfl, by decide +kernel, by decide +kernel⟩
abbrev sUrn : Stmt := topS 8
theorem scUrn : FnScope ["_law_script", "_law_k", "_law_cell", "_law_own"] ["_law_script", "_law_k"] (defScope sUrn) := ⟨rfl, rfl, rfl, by decide +kernel, rfl, by decide +kernel, by decide +kernel⟩
abbrev sTake : Stmt := topS 9
theorem scTake : FnScope ["_law_urn_here", "_law_below", "_law_digit", "_law_mixed_here"] ["_law_urn_here", "_law_below"] (defScope sTake) := ⟨rfl, rfl, rfl, by decide +kernel, rfl, by decide +kernel, by decide +kernel⟩
abbrev sOf : Stmt := topS 10
theorem scOf : FnScope ["_law_urn_here", "_law_items"] ["_law_urn_here", "_law_items"] (defScope sOf) := ⟨rfl, rfl, rfl, by decide +kernel, rfl, by decide +kernel, by decide +kernel⟩
abbrev sPrime : Stmt := topS 11
theorem scPrime : FnScope ["_law_urn_here"] ["_law_urn_here"] (defScope sPrime) := ⟨rfl, rfl, rfl, by decide +kernel, rfl, by decide +kernel, by decide +kernel⟩
abbrev sTuple : Stmt := topS 12
theorem scTuple : FnScope ["_law_urn_here", "_law_q", "_law_count", "_law_turn"] ["_law_urn_here", "_law_q", "_law_count"] (defScope sTuple) := ⟨rfl, rfl, rfl, by decide +kernel, rfl, by decide +kernel, by decide +kernel⟩
abbrev sRanked : Stmt := topS 13
theorem scRanked : FnScope ["_law_q", "_law_lines", "_law_line", "_law_left", "_law_found", "_law_at", "_law_item", "_law_places", "_law_other", "_law_factor", "_law_place"] ["_law_q", "_law_lines"] (defScope sRanked) := ⟨rfl, rfl, rfl, by decide +kernel, rfl, by decide +kernel, by decide +kernel⟩
abbrev sLinverse : Stmt := topS 14
theorem scLinverse : FnScope ["_law_q", "_law_a", "_law_found", "_law_base", "_law_left"] ["_law_q", "_law_a"] (defScope sLinverse) := ⟨rfl, rfl, rfl, by decide +kernel, rfl, by decide +kernel, by decide +kernel⟩
abbrev sMixed : Stmt := topS 15
theorem scMixed : FnScope ["_law_urn_here", "_law_q", "_law_lines", "_law_length", "_law_found", "_law_line", "_law_factor", "_law_mine", "_law_its"] ["_law_urn_here", "_law_q", "_law_lines", "_law_length"] (defScope sMixed) := ⟨rfl, rfl, rfl, by decide +kernel, rfl, by decide +kernel, by decide +kernel⟩
abbrev sRows : Stmt := topS 16
theorem scRows : FnScope ["_law_urn_here", "_law_q", "_law_count", "_law_length", "_law_found", "_law_turn", "_law_way"] ["_law_urn_here", "_law_q", "_law_count", "_law_length"] (defScope sRows) := ⟨rfl, rfl, rfl, by decide +kernel, rfl, by decide +kernel, by decide +kernel⟩
abbrev sShown : Stmt := topS 17
theorem scShown : FnScope ["_law_q", "_law_lines", "_law_line", "_law_told", "_law_at", "_law_total", "_law_weight", "_law_other", "_law_mine", "_law_its", "_law_one"] ["_law_q", "_law_lines", "_law_line", "_law_told"] (defScope sShown) := ⟨rfl, rfl, rfl, by decide +kernel, rfl, by decide +kernel, by decide +kernel⟩
abbrev sRight : Stmt := topS 18
theorem scRight : FnScope ["_law_q", "_law_lines", "_law_line", "_law_held", "_law_told"] ["_law_q", "_law_lines", "_law_line"] (defScope sRight) := ⟨rfl, rfl, rfl, by decide +kernel, rfl, by decide +kernel, by decide +kernel⟩
abbrev sLaw : Stmt := topS 19
theorem scLaw : FnScope ["_law_script", "_law_k", "_law_urn_here", "_law_q", "_law_turn", "_law_length", "_law_count", "_law_lines", "_law_line", "_law_at", "_law_bent", "_law_one"] ["_law_script"] (defScope sLaw) := ⟨rfl, rfl, rfl, by decide +kernel, rfl, by decide +kernel, by decide +kernel⟩
section
variable {P : Program} {w : World} {K : PySem.W.Frag} {mg : Str → Option Value} {base : Heap}
theorem ok_urn {f : Addr} {fd : FuncData} {k : Nat} (F : Fun K "_law_urn" "_law_urn" sUrn f fd) (ml : mg "len" = none) (ma : mg "abs" = none) (mi : mg "int" = none) :
    FnOk P w K mg base CX0 (k + 1) f fd ["_law_script", "_law_k"] (spUrn K) := by
  refine F.ok scUrn (fun vs H Q E h => ?_) (fun cdv A outer s H vs Q E hr h => ?_)
  · obtain ⟨a, ns, k, rfl, _⟩ := h
    rfl
  obtain ⟨a, ns, k, rfl, hS, h0, h1, q⟩ := h
  refine ⟨_, Evl.pss_cut (ps_set (i := 2) scUrn.nd rfl (.inl rfl) (pe_ifExp (pt_cmpR op_lt (pv 1) (pe_callB call_len_seq (by rfl) ml PySem.boot_len (pa_cons (pv 0) pa_nil)) (nomark _)) (pe_ix ix_list (pv 0) (pv 1) (fun _ _ => rfl)) (pe_op op_add (pe_op op_mul pe_int (pv 1)) pe_int)))
    (pss_cons (ps_set (i := 3) scUrn.nd rfl (.inl rfl) (pe_op op_mul (pe_op op_mod (pe_callB call_abs (by rfl) ma (by decide +kernel) (pa_cons (pv 2) pa_nil)) (pe_callTy call_int_str (by rfl) mi (by decide +kernel) (pa_cons (pe_op op_add_str pe_str (pe_op op_mulS pe_str pe_int)) pa_nil)))
       (pe_callTy call_int1 (by rfl) mi (by decide +kernel) (pa_cons (pe_cmpR op_ge (pe_callB call_abs (by rfl) ma (by decide +kernel) (pa_cons (pv 2) pa_nil)) (pe_op op_pow pe_int pe_int) (nomark _)) pa_nil))))
    (pss_one (ps_ret (pe_lst (pa_cons (pv 3) (pa_cons (pe_op op_mod (pe_op op_mul (pe_op op_add (pe_op op_add (pe_op op_mod (pv 2) pe_int) (pe_op op_mul (pe_op op_mul pe_int (pv 1)) (pv 1))) pe_int) pe_int) pe_int) pa_nil)))))), ?_⟩
  refine ⟨fun σ H' => ∃ c : Int, σ = [some (.ref a), some (.int k), some (.int c), none] ∧ H' = H, ?_, ?_⟩
  · refine ⟨_, rfl, _, rfl, a, _, rfl, .inl hS, _, _, rfl, rfl, _, rfl, ite2 (fun c => ?_) (fun c => ?_)⟩
    · have c' : k < (((ns.map V.int).length : Nat) : Int) := of_decide_eq_true c
      rw [List.length_map] at c'
      obtain ⟨v, _, hv⟩ := at_int (ns := ns) h0 c'
      exact ⟨_, rfl, _, rfl, a, _, _, _, rfl, rfl, hS, hv, v, rfl, rfl⟩
    · exact ⟨_, rfl, 3, k, rfl, rfl, .inl ⟨by decide, by decide⟩, _, _, rfl, rfl, _, rfl, rfl⟩
  · rintro σ' H' ⟨c, rfl, rfl⟩
    refine ⟨_, rfl, c, rfl, _, _, rfl, rfl, mul_ok0, _, _, rfl, rfl, (by decide +kernel), _, _, rfl, urnText_int, urnText_len, _, _, rfl, rfl, (by show (0 : Int) < 10 ^ 300; decide +kernel), _, rfl, c, rfl, 10, 18, rfl, rfl, ⟨by decide, by decide, by decide⟩, _, _, rfl, rfl, .inr ⟨_, rfl, _, _, rfl, rfl, .inr ?_, ?_⟩⟩
    · exact ind_bd _
    obtain ⟨o1, o2⟩ := own_lt c (decide (10 ^ (18 : Int).toNat ≤ if c < 0 then -c else c))
    refine ⟨_, rfl, _, rfl, c, _, rfl, rfl, (by show (0 : Int) < 2305843009213693951; decide), _, rfl, 7919, k, rfl, rfl, .inl ⟨by decide, by decide⟩, _, rfl, _, k, rfl, rfl, .inl ⟨by omega, by omega⟩, _, _, rfl, rfl, _, _, rfl, rfl, _, _, rfl, rfl, .inr ⟨by decide, by decide⟩, _, _, rfl, rfl, (by show (0 : Int) < 2305843009213693951; decide), (by show 2 ≤ sizeLine; decide), fun p np => ?_⟩
    exact q _ p (same_new np) np ⟨_, _, upd_same, o1, o2, Int.emod_nonneg _ (by decide), Int.emod_lt_of_pos _ (by decide)⟩
theorem ok_take {f : Addr} {fd : FuncData} {k : Nat} (F : Fun K "_law_take" "_law_take" sTake f fd) :
    FnOk P w K mg base CX0 (k + 1) f fd ["_law_urn_here", "_law_below"] spTake := by
  refine F.ok scTake (fun vs H Q E h => ?_) (fun cdv A outer s H vs Q E hr h => ?_)
  · obtain ⟨p, n, rfl, _⟩ := h
    rfl
  obtain ⟨p, n, rfl, ⟨u, v, hp, u0, u1, v0, v1⟩, n0, n1, q⟩ := h
  refine ⟨_, pss_cons (ps_if (pt_cmpR op_gt (pe_ix ix_list (pv 0) pe_int (fun _ _ => rfl)) pe_int (nomark _))
      (pss_cons (ps_set (i := 2) scTake.nd rfl (.inl rfl) (pe_op op_mod (pe_ix ix_list (pv 0) pe_int (fun _ _ => rfl)) (pv 1)))
      (pss_cons (ps_asg (pe_op op_fdivW (pe_ix ix_list (pv 0) pe_int (fun _ _ => rfl)) (pv 1)) (pg_sub (pv 0) pe_int set_list))
      (pss_one (ps_ret (pv 2))))) pss_nil)
    (pss_cons (ps_asg (pe_op op_mod (pe_op op_add (pe_op op_mul (pe_ix ix_list (pv 0) pe_int (fun _ _ => rfl)) pe_int) pe_int) pe_int) (pg_sub (pv 0) pe_int set_list))
    (pss_cons (ps_set (i := 3) scTake.nd rfl (.inl rfl) (pe_op op_mod (pe_op op_mul (pe_op op_fdiv (pe_ix ix_list (pv 0) pe_int (fun _ _ => rfl)) pe_int) (pe_op op_add (pe_op op_mod (pe_ix ix_list (pv 0) pe_int (fun _ _ => rfl)) pe_int) pe_int)) pe_int))
    (Evl.pss_cut (ps_if (pt_cmpR op_gt (pv 1) (pe_op op_pow pe_int pe_int) (nomark _))
      (pss_cons (ps_asg (pe_op op_mod (pe_op op_add (pe_op op_mul (pe_ix ix_list (pv 0) pe_int (fun _ _ => rfl)) pe_int) pe_int) pe_int) (pg_sub (pv 0) pe_int set_list))
      (pss_one (ps_set (i := 3) scTake.nd rfl (.inl rfl) (pe_op op_add (pe_op op_mul (pv 3) pe_int) (pe_ix ix_list (pv 0) pe_int (fun _ _ => rfl)))))) pss_nil)
    (pss_one (ps_ret (pe_op op_mod (pe_op op_fdiv (pv 3) pe_int) (pv 1))))))), ?_⟩
  refine ⟨_, rfl, p, _, 0, .int u, rfl, rfl, SqL.of hp, rfl, _, _, rfl, rfl, _, rfl, ite2 (fun c => ?_) (fun c => ?_)⟩
  · have c' : 0 < u := of_decide_eq_true c
    refine ⟨_, rfl, p, _, 0, .int u, rfl, rfl, SqL.of hp, rfl, _, rfl, u, n, rfl, rfl, n0, ?_⟩
    refine ⟨_, rfl, p, _, 0, .int u, rfl, rfl, SqL.of hp, rfl, _, rfl, u, n, rfl, rfl, wide_div (b := 1000) n0 n1 (by decide) (by decide), _, rfl, p, _, 0, 0, rfl, rfl, hp, rfl, _, rfl, ?_⟩
    refine q _ _ (Int.emod_nonneg _ (by omega)) (Int.emod_lt_of_pos _ n0) ⟨_, v, upd_same, ?_, ?_, v0, v1⟩ But.upd
    · exact Int.ediv_nonneg (by omega) (by omega)
    · have h1 : 0 ≤ u / n := Int.ediv_nonneg (by omega) (by omega)
      have h2 : u / n ≤ u := Int.ediv_le_self _ (by omega)
      omega
  · refine ⟨_, rfl, p, _, 1, .int v, rfl, rfl, SqL.of hp, rfl, v, _, rfl, rfl, .inl ⟨by omega, by omega⟩, _, _, rfl, rfl, _, _, rfl, rfl, (by show (0 : Int) < 2305843009213693951; decide), _, rfl, p, _, 1, 1, rfl, rfl, hp, rfl, ?_⟩
    have w0 := nx0 v
    have w1 := nx1 v
    have hx : (upd H p (.lst [.int u, .int (nx v)])) p = some (.lst [.int u, .int (nx v)]) := upd_same
    refine ⟨_, rfl, p, _, 1, .int (nx v), rfl, rfl, SqL.of hx, rfl, nx v, _, rfl, rfl, ⟨by decide, by decide⟩, _, rfl, p, _, 1, .int (nx v), rfl, rfl, SqL.of hx, rfl, nx v, _, rfl, rfl, (by show (0 : Int) < 65537; decide), _, _, rfl, rfl, _, _, rfl, rfl, .inr ⟨by omega, by omega⟩, _, _, rfl, rfl, (by show (0 : Int) < 2305843009213693921; decide), ?_⟩
    refine ⟨fun σ H' => ∃ m y : Int, σ = [some (.ref p), some (.int n), none, some (.int m)] ∧ H' = upd H p (.lst [.int u, .int y]) ∧ 0 ≤ y ∧ y < 2305843009213693951, ?_, ?_⟩
    · refine ⟨_, rfl, 10, 9, rfl, rfl, ⟨by decide, by decide, by decide⟩, _, _, rfl, rfl, _, rfl, ite2 (fun c => ?_) (fun c => ?_)⟩
      · refine ⟨_, rfl, p, _, 1, .int (nx v), rfl, rfl, SqL.of hx, rfl, nx v, _, rfl, rfl, .inl ⟨by omega, by omega⟩, _, _, rfl, rfl, _, _, rfl, rfl, (by show (0 : Int) < 2305843009213693951; decide), _, rfl, p, _, 1, 1, rfl, rfl, hx, rfl, ?_⟩
        have hy : (upd (upd H p (.lst [.int u, .int (nx v)])) p (.lst [.int u, .int (ny (nx v))])) p = some (.lst [.int u, .int (ny (nx v))]) := upd_same
        refine ⟨_, rfl, _, _, rfl, rfl, .inr ⟨by decide, by decide⟩, _, rfl, p, _, 1, .int (ny (nx v)), rfl, rfl, SqL.of hy, rfl, _, _, rfl, rfl, ?_⟩
        exact ⟨_, ny (nx v), rfl, upd_upd, ny0 _, ny1 _⟩
      · exact ⟨_, nx v, rfl, rfl, w0, w1⟩
    · rintro σ' H' ⟨m, y, rfl, rfl, y0, y1⟩
      refine ⟨_, rfl, m, 97, rfl, rfl, ⟨by decide, by decide⟩, _, rfl, _, n, rfl, rfl, n0, ?_⟩
      exact q _ _ (Int.emod_nonneg _ (by omega)) (Int.emod_lt_of_pos _ n0) ⟨u, y, upd_same, u0, u1, y0, y1⟩ But.upd
theorem ok_of {f fT : Addr} {fd fdT : FuncData} {k : Nat} (F : Fun K "_law_of" "_law_of" sOf f fd) (FT : Fun K "_law_take" "_law_take" sTake fT fdT) (bT : Binds K fdT ["_law_urn_here", "_law_below"] []) (gT : mg "_law_take" = some (.ref fT)) (ml : mg "len" = none) :
    FnOk P w K mg base CX0 (k + 2) f fd ["_law_urn_here", "_law_items"] (spOf K) := by
  have GT : FnOk P w K mg base CX0 (k + 1) fT fdT ["_law_urn_here", "_law_below"] spTake := ok_take FT
  refine F.ok scOf (fun vs H Q E h => ?_) (fun cdv A outer s H vs Q E hr h => ?_)
  · obtain ⟨p, r, xs, rfl, _⟩ := h
    rfl
  obtain ⟨p, r, xs, rfl, hU, nr, hr2, hx, hl, q⟩ := h
  refine ⟨_, pss_one (ps_ret (pe_ix ix_list (pv 1) (pe_call GT hr (by rfl) gT FT.kp bT .nil pass0 (pa_cons (pv 0) (pa_cons (pe_callB call_len_seq (by rfl) ml PySem.boot_len (pa_cons (pv 1) pa_nil)) pa_nil))) (fun _ _ => rfl))), ?_⟩
  have l0 : 0 < xs.length := List.length_pos_iff.mpr hx
  have l1 : (1000 : Nat) < wide := by decide +kernel
  refine ⟨_, rfl, _, rfl, _, rfl, r, xs, rfl, .inl hr2, p, _, rfl, hU, by omega, by omega, fun d H' d0 d1 hU' hb => ?_⟩
  obtain ⟨x, mx, hx2⟩ := at_any (xs := xs) d0 d1
  exact ⟨r, xs, d, x, rfl, rfl, hb.seq nr hr2, hx2, q x H' mx hU' hb⟩
end
section
variable {P : Program} {w : World} {K : PySem.W.Frag} {mg : Str → Option Value} {base : Heap}
theorem has_urn (M : Bl mg) (F : At K mg "_law_urn" sUrn ["_law_script", "_law_k"]) : Has P w K mg base 1 "_law_urn" ["_law_script", "_law_k"] (spUrn K) := by
  obtain ⟨f, fd, F, b, g⟩ := F
  exact ⟨f, fd, .of (ok_urn F M.len_ M.abs_ M.int_), F.kp, b, g, fun_lk F⟩
theorem has_take (F : At K mg "_law_take" sTake ["_law_urn_here", "_law_below"]) : Has P w K mg base 1 "_law_take" ["_law_urn_here", "_law_below"] spTake := by
  obtain ⟨f, fd, F, b, g⟩ := F
  exact ⟨f, fd, .of (ok_take F), F.kp, b, g, fun_lk F⟩
theorem has_of (M : Bl mg) (F : At K mg "_law_of" sOf ["_law_urn_here", "_law_items"]) (FT : At K mg "_law_take" sTake ["_law_urn_here", "_law_below"]) : Has P w K mg base 2 "_law_of" ["_law_urn_here", "_law_items"] (spOf K) := by
  obtain ⟨f, fd, F, b, g⟩ := F
  obtain ⟨f2, fd2, F2, b2, g2⟩ := FT
  exact ⟨f, fd, .of (ok_of F F2 b2 g2 M.len_), F.kp, b, g, fun_lk F⟩
end
section
variable {P : Program} {w : World} {K : PySem.W.Frag} {mg : Str → Option Value} {base : Heap}
/-! ### inverse, times, less -/
def spInv : Sp := fun vs H Q _ => ∃ p a : Int, vs = [.int p, .int a] ∧ 1 < p ∧ p ≤ 10007 ∧ 0 < a ∧ a < p ∧ K02.Cop p a ∧ ∀ r : Int, 0 < r → r < p → r * a % p = 1 → Q (.int r) H
theorem ok_inv (F : At K mg "inverse" sInverse ["p", "a"]) {k : Nat} : Has P w K mg base (k + 1) "inverse" ["p", "a"] spInv := by
  refine Has.by F scInverse (fun vs H Q E h => ?_) (fun f cdv A out s H vs Q E hg hr h => ?_)
  · obtain ⟨p, a, rfl, _⟩ := h
    rfl
  obtain ⟨p, a, rfl, p1, p2, a0, a1, cop, q⟩ := h
  refine ⟨_, (pss_cons (ps_par (i := 2) (j := 3) (by rfl) scInverse.nd rfl rfl (by decide) rfl rfl (pa_cons (pv 0) (pa_cons pe_int pa_nil)) (by rfl))
  (pss_cons (ps_par (i := 4) (j := 5) (by rfl) scInverse.nd rfl rfl (by decide) rfl rfl (pa_cons (pv 1) (pa_cons pe_int pa_nil)) (by rfl))
  (pss_cons (ps_while PassesOwn.never (pt_cmpR op_gt (pv 4) pe_int (nomark _))
    (pss_cons (ps_set (i := 6) scInverse.nd rfl (.inl rfl) (pe_op op_fdiv (pv 2) (pv 4)))
  (pss_cons (ps_par (i := 2) (j := 4) (by rfl) scInverse.nd rfl rfl (by decide) rfl rfl (pa_cons (pv 4) (pa_cons (pe_op op_sub (pv 2) (pe_op op_mul (pv 6) (pv 4))) pa_nil)) (by rfl))
  (pss_one (ps_par (i := 3) (j := 5) (by rfl) scInverse.nd rfl rfl (by decide) rfl rfl (pa_cons (pv 5) (pa_cons (pe_op op_sub (pv 3) (pe_op op_mul (pv 6) (pv 5))) pa_nil)) (by rfl))))))
  (pss_one (ps_ret (pe_op op_mod (pv 5) (pv 0))))))), ?_⟩
  refine ⟨_, rfl, _, _, rfl, _, rfl, _, _, rfl, ?_⟩
  refine ⟨fun m σ H' => ∃ (hi hs lo ls : Int) (y : Option V), σ = [some (.int p), some (.int a), some (.int hi), some (.int hs), some (.int lo), some (.int ls), y] ∧ H' = H ∧ K02.EI p a hi hs lo ls ∧ m = lo.toNat,
    ⟨_, p, 0, a, 1, none, rfl, rfl, K02.EI.start a0 a1 cop, rfl⟩, ?_⟩
  rintro m σ H' ⟨hi, hs, lo, ls, y, rfl, rfl, e, rfl⟩
  refine ⟨_, rfl, lo, 1, rfl, rfl, _, rfl, ite2 (fun c => ?_) (fun c => ?_)⟩
  · have c' : 1 < lo := of_decide_eq_true c
    obtain ⟨e2, lt⟩ := e.step c'
    have l1 := e.lop
    have l2 := e.hip
    have l3 := e.hi1
    have q0 : 0 ≤ hi / lo := Int.ediv_nonneg (by omega) (by omega)
    have q1 : hi / lo ≤ hi := Int.ediv_le_self _ (by omega)
    refine ⟨fun σ' H2 => ∃ y, σ' = [some (.int p), some (.int a), some (.int lo), some (.int ls), some (.int (hi - hi / lo * lo)), some (.int (hs - hi / lo * ls)), y] ∧ H2 = H', ?_, ?_⟩
    · rintro σ' H2 ⟨y2, rfl, rfl⟩
      exact ⟨_, lt, _, _, _, _, y2, rfl, rfl, e2, rfl⟩
    · refine ⟨_, rfl, _, rfl, hi, lo, rfl, rfl, ⟨by omega, by omega⟩, ?_⟩
      refine ⟨_, rfl, _, rfl, _, rfl, _, rfl, _, _, rfl, rfl, .inl ⟨by omega, by omega⟩, _, _, rfl, rfl, _, _, rfl, ?_⟩
      refine ⟨_, rfl, _, rfl, _, rfl, _, rfl, _, _, rfl, rfl, .inl ⟨by omega, by omega⟩, _, _, rfl, rfl, _, _, rfl, ?_⟩
      exact ⟨_, rfl, rfl⟩
  · have c' : ¬ 1 < lo := of_decide_eq_false (Bool.eq_false_iff.mpr c)
    obtain ⟨r0, r1, r2⟩ := e.done c' p1
    exact ⟨_, rfl, _, rfl, _, _, rfl, rfl, (by show (0 : Int) < p; omega), q _ r0 r1 r2⟩
def spTimes (K : PySem.W.Frag) : Sp := fun vs H Q _ => ∃ (p f : Int) (a : Addr) (ns : List Int), vs = [.int p, .int f, .ref a] ∧ SqL K H a (ns.map V.int) ∧ 1 < p ∧ p ≤ 10007 ∧ 0 ≤ f ∧ f < p ∧ ns.length ≤ 3000 ∧
  ∀ H' c, Same H H' → H c = none → H' c = some (.lst ((ns.map fun a => f * a % p).map V.int)) → Q (.ref c) H'
theorem take_map {f : Int → Int} {ns : List Int} {i : Nat} {a : Int} (e : ns[i]? = some a) : (ns.take (i + 1)).map f = (ns.take i).map f ++ [f a] := by
  rw [List.take_add_one, e, List.map_append]
  rfl
theorem ok_times (M : Bl mg) (F : At K mg "times" sTimes ["p", "factor", "row"]) {k : Nat} : Has P w K mg base (k + 1) "times" ["p", "factor", "row"] (spTimes K) := by
  refine Has.by F scTimes (fun vs H Q E h => ?_) (fun g cdv A out s H vs Q E hg hr h => ?_)
  · obtain ⟨_, _, _, _, rfl, _⟩ := h
    rfl
  obtain ⟨p, f, a, ns, rfl, sq, p1, p2, f0, f1, hl, q⟩ := h
  refine ⟨_, (pss_one (ps_ret (pe_lc (own := [("a", 3)]) (g := gName 3) (by rfl) scTimes.nd (pi_list (pv 2)) (blkOk_by (own := [("a", 3)]) (N := ["p", "factor", "row", "a"]) (sc := defScope sTimes) (by decide +kernel)) (fun _ _ _ _ _ => (pg_name (i := 3) scTimes.nd rfl (.inl rfl))) (fun _ _ _ _ _ => pts_nil) (fun _ _ _ _ _ => (pe_op op_mod (pe_op op_mul (pv 1) (pv 3)) (pv 0)))))), ?_⟩
  refine ⟨_, rfl, a, rfl, ⟨_, sq⟩, fun D nD => ?_⟩
  refine lc_list (xs := ns.map V.int) (fun i H' => H' D = some (.lst (((ns.take i).map fun a => f * a % p).map V.int)) ∧ Same H H') ⟨upd_same, same_new nD⟩ (fun i H' _ h => h.2.seq sq) ?_ ?_
  · rintro i x H2 hi ⟨e1, e2⟩
    rw [List.getElem?_map] at hi
    obtain ⟨z, ez, rfl⟩ := Option.map_eq_some_iff.mp hi
    refine ⟨rfl, _, rfl, _, rfl, f, z, rfl, rfl, .inl ⟨by omega, by omega⟩, _, rfl, _, p, rfl, rfl, by omega, _, e1, ?_, ?_, fun b o ho => ?_⟩
    · rw [List.length_map, List.length_map, List.length_take, sizeLine_eq]
      omega
    · rw [upd_same, take_map ez, List.map_append]
      rfl
    · rw [upd_ne (ne_of_none ho nD)]
      exact e2 _ _ ho
  · rintro H2 ⟨e1, e2⟩
    rw [List.length_map, List.take_length] at e1
    exact q H2 D e2 nD e1
def spLess (K : PySem.W.Frag) : Sp := fun vs H Q _ => ∃ (p f : Int) (a b : Addr) (ns ms : List Int), vs = [.int p, .ref a, .int f, .ref b] ∧ SqL K H a (ns.map V.int) ∧ SqL K H b (ms.map V.int) ∧ ns.length = ms.length ∧ 1 < p ∧ p ≤ 10007 ∧ 0 ≤ f ∧ f < p ∧ ns.length ≤ 3000 ∧
  ∀ H' c, Same H H' → H c = none → H' c = some (.lst ((List.zipWith (fun x y => (x - f * y) % p) ns ms).map V.int)) → Q (.ref c) H'
theorem take_zip {f : Int → Int → Int} {ns ms : List Int} {i : Nat} {a b : Int} (e : ns[i]? = some a) (e2 : ms[i]? = some b) : List.zipWith f (ns.take (i + 1)) (ms.take (i + 1)) = List.zipWith f (ns.take i) (ms.take i) ++ [f a b] := by
  rw [← List.take_zipWith, ← List.take_zipWith, List.take_add_one, List.getElem?_zipWith, e, e2]
  rfl
theorem ok_less (M : Bl mg) (F : At K mg "less" sLess ["p", "row", "factor", "other"]) {k : Nat} : Has P w K mg base (k + 1) "less" ["p", "row", "factor", "other"] (spLess K) := by
  refine Has.by F scLess (fun vs H Q E h => ?_) (fun g cdv A out s H vs Q E hg hr h => ?_)
  · obtain ⟨_, _, _, _, _, _, rfl, _⟩ := h
    rfl
  obtain ⟨p, f, a, b, ns, ms, rfl, sa, sb, eq, p1, p2, f0, f1, hl, q⟩ := h
  refine ⟨_, (pss_one (ps_ret (pe_lc (own := [("a", 4), ("b", 5)]) (g := gTup K 2 (gCons (gName 4) (gCons (gName 5) gNil))) (by rfl) scLess.nd (pi_zip (by rfl) M.zip_ (pa_cons (pv 1) (pa_cons (pv 3) pa_nil))) (blkOk_by (own := [("a", 4), ("b", 5)]) (N := ["p", "row", "factor", "other", "a", "b"]) (sc := defScope sLess) (by decide +kernel)) (fun _ _ _ _ _ => (pg_tup rfl (pgs_cons (pg_name (i := 4) scLess.nd rfl (.inl rfl)) (pgs_cons (pg_name (i := 5) scLess.nd rfl (.inl rfl)) pgs_nil)))) (fun _ _ _ _ _ => pts_nil) (fun _ _ _ _ _ => (pe_op op_mod (pe_op op_sub (pv 4) (pe_op op_mul (pv 2) (pv 5))) (pv 0)))))), ?_⟩
  refine ⟨_, rfl, _, rfl, a, b, _, _, rfl, sa, sb, fun D nD => ?_⟩
  refine lc_it (walk_zip (K := K) (a := a) (b := b) (xs := ns.map V.int) (ys := ms.map V.int) (n := ns.length) (by rw [List.length_map, List.length_map]; omega)) (fun i H' => H' D = some (.lst ((List.zipWith (fun x y => (x - f * y) % p) (ns.take i) (ms.take i)).map V.int)) ∧ Same H H') ⟨upd_same, same_new nD⟩ (fun i H' _ h => ⟨h.2.seq sa, h.2.seq sb⟩) ?_ ?_
  · rintro i x H1 H2 hi ⟨e1, e2⟩ ⟨T, u, v, rfl, nT, rfl, hu, hv⟩
    cases (row_int hi).symm.trans hu
    cases (row_int (ns := ms) (i := i) (by omega)).symm.trans hv
    have sT := same_new (o := .tup [V.int (row ns i), V.int (row ms i)]) nT
    refine ⟨T, _, rfl, SqT.of upd_same, rfl, _, _, rfl, _, _, rfl, rfl, ?_⟩
    refine ⟨rfl, _, rfl, _, rfl, _, rfl, f, _, rfl, rfl, .inl ⟨by omega, by omega⟩, _, _, rfl, rfl, _, rfl, _, p, rfl, rfl, by omega, _, sT _ _ e1, ?_, ?_, fun c o ho => ?_⟩
    · rw [List.length_map, List.length_zipWith, List.length_take, List.length_take, sizeLine_eq]
      omega
    · rw [upd_same, take_zip (row_at hi) (row_at (by omega)), List.map_append]
      rfl
    · rw [upd_ne (ne_of_none ho nD)]
      exact sT _ _ (e2 _ _ ho)
  · rintro H2 ⟨e1, e2⟩
    rw [List.take_length, eq, List.take_length] at e1
    exact q H2 D e2 nD e1
end
end K04
set_option Elab.async false
set_option pp.maxSteps 500
set_option pp.deepTerms.threshold 8
set_option pp.deepTerms false
set_option linter.all false
set_option maxRecDepth 100000
namespace K04
open PySem PySem.Spec PyProof.Rows L2 Lj
section
variable {P : Program} {w : World} {K : PySem.W.Frag} {mg : Str → Option Value} {base : Heap}
/-- a list of lists of numbers -/
def LL (K : PySem.W.Frag) (H : Hp) (v : V) (R : List (List Int)) : Prop := ∃ (c : Addr) (as : List Addr), v = .ref c ∧ SqL K H c (as.map V.ref) ∧ Paired (fun a ns => SqL K H a (ns.map V.int)) as R
theorem paired_get {α β : Type} {F : α → β → Prop} : ∀ {as : List α} {bs : List β} {i : Nat} {a : α}, Paired F as bs → as[i]? = some a → ∃ b, bs[i]? = some b ∧ F a b
  | _, _, 0, _, .cons h _, e => by
    cases e
    exact ⟨_, rfl, h⟩
  | _, _, i + 1, _, .cons _ t, e => paired_get (i := i) t e
/-! ### echelon -/
def spEch (K : PySem.W.Frag) : Sp := fun vs H Q _ => ∃ (p : Int) (v : V) (R : List (List Int)) (N : Nat), vs = [.int p, v] ∧ LL K H v R ∧ (∀ ns ∈ R, ns.length = N ∧ Fe p ns) ∧ N ≤ 1000 ∧ p ≤ 10007 ∧ PInv p ∧ (∀ a, 0 < a → a < p → K02.Cop p a) ∧
  ∀ H' d E, Same H H' → H d = none → H' d = some (.dK (kvE E)) → (∀ e ∈ E, EntOk p N H' e) → (E.map (·.c)).Nodup → E.length ≤ N → (∀ v, Kl p N v R ↔ KlE p N v E) → Q (.ref d) H'
theorem ent_keep {p : Int} {N : Nat} {H H' : Hp} {e : Ent} (h : EntOk p N H e) (k : ∀ o, H e.b = some o → H' e.b = some o) : EntOk p N H' e := ⟨k _ h.1, h.2⟩
/-- keys are different, and below N: there are at most N -/
theorem few {N : Nat} : ∀ {cs : List Nat}, cs.Nodup → (∀ c ∈ cs, c < N) → cs.length ≤ N := fun {cs} nd h => by
  have s : cs ⊆ List.range N := fun c m => List.mem_range.mpr (h c m)
  have := nd.length_le_of_subset s
  rw [List.length_range] at this
  exact this
theorem ok_ech (M : Bl mg) (F : At K mg "echelon" sEchelon ["p", "rows"]) {k : Nat} (h1 : Has P w K mg base k "inverse" ["p", "a"] spInv) (h2 : Has P w K mg base k "times" ["p", "factor", "row"] (spTimes K)) (h3 : Has P w K mg base k "less" ["p", "row", "factor", "other"] (spLess K)) :
    Has P w K mg base (k + 1) "echelon" ["p", "rows"] (spEch K) := by
  obtain ⟨_, _, cInverse⟩ := h1
  obtain ⟨_, _, cTimes⟩ := h2
  obtain ⟨_, _, cLess⟩ := h3
  refine Has.by F scEchelon (fun vs H Q E h => ?_) (fun g cdv A out s H vs Q E hg hr h => ?_)
  · obtain ⟨_, _, _, _, rfl, _⟩ := h
    rfl
  obtain ⟨p, v, R, N, rfl, ⟨c, as, rfl, sq, pa⟩, hR, hN, p7, pi, cop, q⟩ := h
  have p1 := pi.1
  refine ⟨_, (pss_cons (ps_set (i := 2) scEchelon.nd rfl (.inl rfl) pe_dnewK)
  (pss_cons (ps_for PassesOwn.never rfl (pi_list (pv 1)) (pg_name (i := 3) scEchelon.nd rfl (.inl rfl))
    (pss_cons (ps_set (i := 4) scEchelon.nd rfl (.inl rfl) (pv 3))
  (pss_one (ps_for PassesOwn.never rfl (pi_range1 (by rfl) M.range_ (pa_cons (pe_callB call_len_seq (by rfl) M.len_ (by decide +kernel) (pa_cons (pv 3) pa_nil)) pa_nil)) (pg_name (i := 5) scEchelon.nd rfl (.inl rfl))
    (pss_cons (ps_if (pt_cmpR op_eq (pe_ix ix_list (pv 4) (pv 5) (fun _ _ => rfl)) pe_int (nomark _))
    (pss_one ps_continue)
    pss_nil)
  (pss_cons (ps_if (pt_cmp (pc_dnotin (un1 hr) (pv 5) (pv 2)))
    (pss_cons (ps_dput (un1 hr) (pv 2) (pv 5) (pe_cal cTimes hg hr (by rfl) (pa_cons (pv 0) (pa_cons (pe_cal cInverse hg hr (by rfl) (pa_cons (pv 0) (pa_cons (pe_ix ix_list (pv 4) (pv 5) (fun _ _ => rfl)) pa_nil))) (pa_cons (pv 4) pa_nil)))) rfl)
  (pss_one ps_break))
    pss_nil)
  (pss_one (ps_set (i := 4) scEchelon.nd rfl (.inl rfl) (pe_cal cLess hg hr (by rfl) (pa_cons (pv 0) (pa_cons (pv 4) (pa_cons (pe_ix ix_list (pv 4) (pv 5) (fun _ _ => rfl)) (pa_cons (pe_dget (un1 hr) (pv 2) (pv 5) (fun _ _ => rfl)) pa_nil)))))))))))))
  (pss_one (ps_ret (pv 2))))), ?_⟩
  refine fun d nd => ?_
  have alen : as.length = R.length := Paired.length pa
  refine ⟨_, rfl, c, rfl, ⟨_, (same_new nd).seq sq⟩, ?_⟩
  refine for_list (xs := as.map V.ref) (fun i σ H' => ∃ y3 y4 y5 E, σ = [some (.int p), some (.ref c), some (.ref d), y3, y4, y5] ∧ Same H H' ∧ H' d = some (.dK (kvE E)) ∧ (∀ e ∈ E, EntOk p N H' e) ∧ (E.map (·.c)).Nodup ∧ ∀ v, Kl p N v (R.take i) ↔ KlE p N v E)
    ⟨_, _, _, [], rfl, same_new nd, upd_same, (fun e m => absurd m List.not_mem_nil), List.nodup_nil, fun v => ⟨fun _ e m => absurd m List.not_mem_nil, fun _ ns m => by rw [List.take_zero] at m; exact absurd m List.not_mem_nil⟩⟩ (fun i σ H' _ ⟨_, _, _, _, _, sm, _⟩ => sm.seq sq) ?_ ?_
  · rintro i x σ H1 hx ⟨y3, y4, y5, E, rfl, s1, d1, ok1, nd1, kl1⟩
    rw [List.getElem?_map] at hx
    obtain ⟨a, ea, rfl⟩ := Option.map_eq_some_iff.mp hx
    obtain ⟨ns, en, sqa⟩ := paired_get pa ea
    obtain ⟨nl, fe⟩ := hR ns (List.mem_of_getElem? en)
    have dle : E.length ≤ N := by
      have := few nd1 (N := N) fun c m => by
        obtain ⟨e, me, rfl⟩ := List.mem_map.mp m
        exact (ok1 e me).2.2.2.1
      rw [List.length_map] at this
      exact this
    refine ⟨_, rfl, _, rfl, a, _, rfl, .inl (s1.seq sqa), _, rfl, by rw [List.length_map]; omega, by rw [List.length_map]; omega, ?_⟩
    rw [List.length_map, nl]
    -- along the columns
    refine for_range (lo := 0) (n := N) (fun j σ H' => ∃ y5 b ms, σ = [some (.int p), some (.ref c), some (.ref d), some (.ref a), some (.ref b), y5] ∧ Same H1 H' ∧ SqL K H' b (ms.map V.int) ∧ ms.length = N ∧ Fe p ms ∧ (∀ k, k < j → row ms k = 0) ∧ ∀ v, KlE p N v E → (p ∣ dot N (row ms) v ↔ p ∣ dot N (row ns) v))
      ⟨_, a, ns, rfl, Same.refl _, s1.seq sqa, nl, fe, (fun k hk => absurd hk (Nat.not_lt_zero _)), fun v _ => Iff.rfl⟩ ?_ ?_
    · rintro j σ H2 hj ⟨y5, b, ms, rfl, s2, sb, ml, fm, z, kk⟩
      have jm : j < ms.length := by omega
      have d2 := s2 _ _ d1
      have ok2 : ∀ e ∈ E, EntOk p N H2 e := fun e m => ent_keep (ok1 e m) fun o h => s2 _ _ h
      have z0 : (0 : Int) + (j : Nat) = (j : Nat) := by omega
      obtain ⟨m0, m1⟩ := fm.row jm
      refine ⟨_, rfl, _, rfl, b, _, _, _, rfl, rfl, sb, by rw [z0]; exact atI_row jm, rfl, _, rfl, ite2 (fun cc => ?_) (fun cc => ?_)⟩
      · -- nothing to do here
        have e0 : row ms j = 0 := V.int.inj (of_decide_eq_true cc)
        exact ⟨_, b, ms, rfl, s2, sb, ml, fm, (fun k hk => by
          by_cases h : k = j
          · rw [h]; exact e0
          · exact z k (by omega)), kk⟩
      have e0 : row ms j ≠ 0 := fun e => cc (decide_eq_true (by rw [e]))
      refine ⟨_, rfl, _, rfl, d, valV (kvE E) (Sum.inl ((0 : Int) + (j : Nat))), rfl, DGet.k (k := Sum.inl ((0 : Int) + (j : Nat))) d2, _, rfl, ?_⟩
      rw [z0]
      cases hv : valV (kvE E) (Sum.inl ((j : Nat) : Int)) with
      | none =>
        have fresh := kvE_none.mp hv
        refine iteT ?_
        have cj : K02.Cop p (row ms j) := cop _ (by omega) m1
        refine ⟨_, rfl, _, rfl, _, rfl, _, rfl, b, _, _, _, rfl, rfl, sb, atI_row jm, p, row ms j, rfl, p1, p7, by omega, m1, cj, fun r r0 r1 r2 => ?_⟩
        refine ⟨_, rfl, p, r, b, ms, rfl, sb, p1, p7, by omega, r1, by omega, fun H3 t s3 nt ht => ?_⟩
        have d3 := s3 _ _ d2
        refine ⟨_, rfl, _, rfl, d, _, rfl, .inl ⟨_, Sum.inl ((j : Nat) : Int), d3, rfl, ?_, rfl⟩, ?_⟩
        · unfold kvE
          rw [List.length_map, sizeLine_eq]
          omega
        rw [putK_new _ hv]
        have tl : (ms.map fun a => r * a % p).length = N := by rw [List.length_map]; exact ml
        have ntd : t ≠ d := (ne_of_none d2 nt).symm
        have newE : EntOk p N (upd H3 d (.dK (kvE E ++ [(Sum.inl ((j : Nat) : Int), V.ref t)]))) ⟨j, t, ms.map fun a => r * a % p⟩ := by
          refine ⟨(upd_ne ntd).trans ht, tl, Fe.mod (by omega) (fun a => r * a) ms, hj, fun k hk => ?_, ?_⟩
          · have hk : k < j := hk
            rw [row_map (by omega), z k hk, Int.mul_zero, Int.zero_emod]
          · rw [row_map jm]
            exact r2
        have one : ∀ v, p ∣ dot N (row (ms.map fun a => r * a % p)) v ↔ p ∣ dot N (row ms) v := fun v => by
          obtain ⟨u, hu⟩ := dot_lin (p := p) (a := r) (b := 0) (n := N) (e := row (ms.map fun a => r * a % p)) (f := row ms) (g := row ms) (v := v) fun k hk => by
            rw [row_map (by omega), Int.zero_mul, Int.add_zero]
            exact emod_dvd _ _
          have r3 : p ∣ row ms j * r - 1 := by
            have e := Int.emod_def (r * row ms j) p
            exact ⟨r * row ms j / p, by rw [r2] at e; grind⟩
          constructor
          · rintro ⟨m, hm⟩
            obtain ⟨n, hn⟩ := r3
            exact ⟨row ms j * (m - u) - dot N (row ms) v * n, by grind⟩
          · rintro ⟨m, hm⟩
            exact ⟨u + r * m, by grind⟩
        refine ⟨_, _, _, E ++ [⟨j, t, ms.map fun a => r * a % p⟩], rfl, ?_, ?_, ?_, ?_, fun v => ?_⟩
        · intro x o ho
          rw [upd_ne (ne_of_none ho nd)]
          exact s3 _ _ (s2 _ _ (s1 _ _ ho))
        · rw [upd_same]
          unfold kvE
          rw [List.map_append]
          rfl
        · intro e m
          rcases List.mem_append.mp m with m | m
          · refine ent_keep (ok2 e m) fun o ho => ?_
            have ne : e.b ≠ d := fun z => by
              rw [z] at ho
              have := (ok2 e m).1
              rw [z, d2] at this
              cases this
            rw [upd_ne ne]
            exact s3 _ _ ho
          · rw [List.mem_singleton.mp m]
            exact newE
        · rw [List.map_append]
          refine List.nodup_append.mpr ⟨nd1, List.nodup_cons.mpr ⟨List.not_mem_nil, List.nodup_nil⟩, fun x mx y my => ?_⟩
          obtain ⟨e, me, rfl⟩ := List.mem_map.mp mx
          rw [List.mem_singleton.mp my]
          exact fresh e me
        · have et : R.take (i + 1) = R.take i ++ [ns] := by rw [List.take_add_one, en]; rfl
          rw [et, Kl.snoc, KlE.snoc, kl1 v]
          constructor
          · rintro ⟨h1, h2⟩
            exact ⟨h1, (one v).mpr ((kk v h1).mpr h2)⟩
          · rintro ⟨h1, h2⟩
            exact ⟨h1, (kk v h1).mp ((one v).mp h2)⟩
      | some w =>
        obtain ⟨e, me, ec, rfl⟩ := kvE_some hv
        obtain ⟨eb, el, ef, ecn, ebg⟩ := ok2 e me
        refine iteF ?_
        refine ⟨_, rfl, _, rfl, _, rfl, _, rfl, b, _, _, _, rfl, rfl, sb, atI_row jm, _, rfl, _, rfl, d, .ref e.b, rfl, ?_, ?_⟩
        · have g := DGet.k (k := Sum.inl ((j : Nat) : Int)) d2
          rw [hv] at g
          exact g
        refine ⟨p, row ms j, b, e.b, ms, e.es, rfl, sb, SqL.of eb, by omega, p1, p7, m0, m1, by omega, fun H3 t s3 nt ht => ?_⟩
        have zl : (List.zipWith (fun x y => (x - row ms j * y) % p) ms e.es).length = N := by rw [List.length_zipWith]; omega
        refine ⟨_, t, _, rfl, s2.trans s3, SqL.of ht, zl, ?_, fun k hk => ?_, fun v kv => ?_⟩
        · intro x m
          obtain ⟨n, hn, rfl⟩ := List.mem_iff_getElem.mp m
          rw [List.getElem_zipWith]
          exact ⟨Int.emod_nonneg _ (by omega), Int.emod_lt_of_pos _ (by omega)⟩
        · rw [row_zip (by omega) (by omega)]
          by_cases h : k = j
          · rw [h]
            have : row e.es j = 1 := by rw [← ec]; exact ebg.2
            rw [this, Int.mul_one, Int.sub_self, Int.zero_emod]
          · have : row e.es k = 0 := ebg.1 k (by omega)
            rw [z k (by omega), this, Int.mul_zero, Int.sub_self, Int.zero_emod]
        · rw [← kk v kv]
          obtain ⟨u, hu⟩ := dot_lin (p := p) (a := 1) (b := - row ms j) (n := N) (e := row (List.zipWith (fun x y => (x - row ms j * y) % p) ms e.es)) (f := row ms) (g := row e.es) (v := v) fun k hk => by
            rw [row_zip (by omega) (by omega)]
            obtain ⟨m, hm⟩ := emod_dvd p (row ms k - row ms j * row e.es k)
            exact ⟨m, by grind⟩
          obtain ⟨n, hn⟩ := kv e me
          constructor
          · rintro ⟨m, hm⟩
            exact ⟨m - u + row ms j * n, by grind⟩
          · rintro ⟨m, hm⟩
            exact ⟨u + m - row ms j * n, by grind⟩
    · -- all columns are 0
      rintro σ H2 ⟨y5, b, ms, rfl, s2, sb, ml, fm, z, kk⟩
      refine ⟨_, _, _, E, rfl, s1.trans s2, s2 _ _ d1, fun e m => ent_keep (ok1 e m) fun o h => s2 _ _ h, nd1, fun v => ?_⟩
      have et : R.take (i + 1) = R.take i ++ [ns] := by rw [List.take_add_one, en]; rfl
      rw [et, Kl.snoc, kl1 v]
      refine ⟨fun h => h.1, fun h => ⟨h, (kk v h).mp ?_⟩⟩
      rw [dot_zero z]
      exact Int.dvd_zero _
  · rintro σ H1 ⟨y3, y4, y5, E, rfl, s1, d1, ok1, nd1, kl1⟩
    rw [List.length_map, alen, List.take_length] at kl1
    have dle : E.length ≤ N := by
      have := few nd1 (N := N) fun c m => by
        obtain ⟨e, me, rfl⟩ := List.mem_map.mp m
        exact (ok1 e me).2.2.2.1
      rw [List.length_map] at this
      exact this
    exact ⟨_, rfl, q H1 d E s1 nd d1 ok1 nd1 dle kl1⟩
end
end K04
set_option Elab.async false
set_option pp.maxSteps 500
set_option pp.deepTerms.threshold 8
set_option pp.deepTerms false
set_option linter.all false
set_option maxRecDepth 100000
namespace K04
open PySem PySem.Spec PyProof.Rows L2 Lj
section
variable {P : Program} {w : World} {K : PySem.W.Frag} {mg : Str → Option Value} {base : Heap}
/-- a tuple of tuples of numbers -/
def TT (K : PySem.W.Frag) (H : Hp) (v : V) (R : List (List Int)) : Prop := ∃ (c : Addr) (as : List Addr), v = .ref c ∧ SqT K H c (as.map V.ref) ∧ Paired (fun a ns => SqT K H a (ns.map V.int)) as R
theorem TT.kt {K : PySem.W.Frag} {H H' : Hp} {v : V} {R : List (List Int)} (k : Kt H H') (h : TT K H v R) : TT K H' v R := by
  obtain ⟨c, as, e, s, p⟩ := h
  exact ⟨c, as, e, k.sq s, L2.Paired.mapP p fun a ns z => k.sq z⟩
/-- place i of each row, then of the row itself -/
def eqL (R : List (List Int)) (x : List Int) (i : Nat) : List Int := R.map (fun r => row r i) ++ [row x i]
theorem eqL_len (R : List (List Int)) (x : List Int) (i : Nat) : (eqL R x i).length = R.length + 1 := by
  unfold eqL
  rw [List.length_append, List.length_map]
  rfl
theorem eqL_row (R : List (List Int)) (x : List Int) (i k : Nat) (hk : k < R.length + 1) : row (eqL R x i) k = eqn (R.map row) (row x) i k := by
  unfold eqn
  rw [List.length_map]
  refine row_get ?_
  unfold eqL
  by_cases h : k < R.length
  · rw [if_pos h, List.getElem?_append_left (by rw [List.length_map]; exact h), List.getElem?_map, List.getElem?_eq_getElem h, List.getD_eq_getElem?_getD, List.getElem?_map, List.getElem?_eq_getElem h]
    rfl
  · have e : k = R.length := by omega
    rw [if_neg h, e, List.getElem?_append_right (by rw [List.length_map]; exact Nat.le_refl _), List.length_map, Nat.sub_self]
    rfl
def spEqs (K : PySem.W.Frag) : Sp := fun vs H Q _ => ∃ (v : V) (x : Addr) (R : List (List Int)) (xs : List Int) (L : Nat), vs = [v, .ref x] ∧ TT K H v R ∧ SqT K H x (xs.map V.int) ∧ xs.length = L ∧ (∀ r ∈ R, r.length = L) ∧ L ≤ 1000 ∧ R.length ≤ 900 ∧
  ∀ H' v', Same H H' → LL K H' v' ((List.range L).map (eqL R xs)) → Q v' H'
def eqSc : Scope := { kind := .function, names := [(".0", .local), ("place", .cell), ("row", .cell), ("rows", .cell)], isGenerator := false, isCoroutine := false }
theorem ok_eqs (M : Bl mg) (F : At K mg "equations" sEquations ["rows", "row"]) {k : Nat} : Has P w K mg base (k + 1) "equations" ["rows", "row"] (spEqs K) := by
  refine Has.by F scEquations (fun vs H Q E h => ?_) (fun g cdv A out s H vs Q E hg hr h => ?_)
  · obtain ⟨_, _, _, _, _, rfl, _⟩ := h
    rfl
  obtain ⟨v, x, R, xs, L, rfl, ⟨c, as, rfl, sq, pa⟩, sx, xl, hR, hL, hRl, q⟩ := h
  refine ⟨_, (pss_one (ps_ret (pe_lc (own := [("place", 2)]) (g := gName 2) (by rfl) scEquations.nd (pi_range1 (by rfl) M.range_ (pa_cons (pe_callB call_len_seq (by rfl) M.len_ (by decide +kernel) (pa_cons (pv 1) pa_nil)) pa_nil)) (blkOk_by (own := [("place", 2)]) (N := ["rows", "row", "place", "known"]) (sc := defScope sEquations) (by decide +kernel)) (fun _ _ _ _ _ => (pg_name (i := 2) scEquations.nd rfl (.inr rfl))) (fun _ _ _ _ _ => pts_nil)
   (fun _ _ _ _ _ => (pe_op op_cat (pe_lc (own := [("known", 3)]) (g := gName 3) (by rfl) scEquations.nd (pi_tupK (K := K) rfl (pv 0)) (blkOk_by (own := [("known", 3)]) (N := ["rows", "row", "place", "known"]) (sc := eqSc) (by decide +kernel)) (fun _ _ _ _ _ => (pg_name (i := 3) scEquations.nd rfl (.inl rfl))) (fun _ _ _ _ _ => pts_nil) (fun _ _ _ _ _ => (pe_ix (ix_tupK (K := K) rfl) (pv 3) (pv 2) (fun _ _ => rfl)))) (pe_lst (pa_cons (pe_ix (ix_tupK (K := K) rfl) (pv 1) (pv 2) (fun _ _ => rfl)) pa_nil))))))), ?_⟩
  refine ⟨_, rfl, x, _, rfl, .inr sx, ?_⟩
  rw [List.length_map, xl]
  refine ⟨_, rfl, by omega, by omega, fun D nD => ?_⟩
  refine lc_range (lo := 0) (n := L) (fun i H' => ∃ bs : List Addr, H' D = some (.lst (bs.map V.ref)) ∧ Paired (fun b ns => H' b = some (.lst (ns.map V.int)) ∧ b ≠ D) bs ((List.range i).map (eqL R xs)) ∧ Same H H') ⟨[], upd_same, .nil, same_new nD⟩ ?_ ?_
  · rintro i H1 hi ⟨bs, e1, e2, e3⟩
    refine ⟨rfl, ?_⟩
    have z0 : (0 : Int) + (i : Nat) = (i : Nat) := by omega
    have alen : as.length = R.length := Paired.length pa
    refine ⟨_, rfl, c, rfl, ⟨_, (Kt.same e3).sq sq⟩, fun D2 nD2 => ?_⟩
    have nDD : D2 ≠ D := (ne_of_none e1 nD2).symm
    have nH2 : H D2 = none := e3.free nD2
    refine lc_tup (xs := as.map V.ref) (fun j H' => H' D2 = some (.lst (((R.take j).map fun r => row r i).map V.int)) ∧ Same H1 H') ⟨upd_same, same_new nD2⟩ (fun j H' _ h => (Kt.same (e3.trans h.2)).sq sq) ?_ ?_
    · rintro j y H2 hy ⟨f1, f2⟩
      rw [List.getElem?_map] at hy
      obtain ⟨a, ea, rfl⟩ := Option.map_eq_some_iff.mp hy
      obtain ⟨r, er, sa⟩ := paired_get pa ea
      have rl := hR r (List.mem_of_getElem? er)
      refine ⟨rfl, _, rfl, _, rfl, a, _, _, .int (row r i), rfl, rfl, (Kt.same (e3.trans f2)).sq sa, ?_, _, f1, ?_, ?_, fun b o ho => ?_⟩
      · rw [z0]
        exact atI_row (by omega)
      · rw [List.length_map, List.length_map, List.length_take, sizeLine_eq]
        omega
      · rw [upd_same, List.take_add_one, er, List.map_append, List.map_append]
        rfl
      · rw [upd_ne (ne_of_none ho nD2)]
        exact f2 _ _ ho
    rintro H2 ⟨f1, f2⟩
    rw [List.length_map, alen, List.take_length] at f1
    refine ⟨_, rfl, _, rfl, x, _, _, _, rfl, rfl, (Kt.same (e3.trans f2)).sq sx, by rw [z0]; exact atI_row (by omega), (by show 1 ≤ sizeLine; decide), fun t nt => ?_⟩
    have st := same_new (o := .lst [V.int (row xs i)]) nt
    refine ⟨D2, t, _, _, rfl, rfl, st _ _ f1, upd_same, ?_, fun u nu => ?_⟩
    · rw [List.length_map, List.length_map, sizeLine_eq]
      show R.length + 1 ≤ _
      omega
    have su := same_new (o := .lst (((R.map fun r => row r i).map V.int) ++ [V.int (row xs i)])) nu
    have s12 : Same H1 _ := (f2.trans st).trans su
    have eD := s12 _ _ e1
    have nuD : u ≠ D := (ne_of_none ((f2.trans st) _ _ e1) nu).symm
    refine ⟨_, eD, ?_, bs ++ [u], ?_, ?_, fun b o ho => ?_⟩
    · have := Paired.length e2
      rw [List.length_map, List.length_range] at this
      rw [List.length_map, this, sizeLine_eq]
      omega
    · rw [upd_same, List.map_append]
      rfl
    · rw [List.range_succ, List.map_append]
      refine paired_app (L2.Paired.mapP e2 fun b ns z => ⟨(upd_ne z.2).trans (s12 _ _ z.1), z.2⟩) (.cons ⟨?_, nuD⟩ .nil)
      rw [upd_ne nuD, upd_same]
      unfold eqL
      rw [List.map_append]
      rfl
    · rw [upd_ne (ne_of_none ho nD)]
      exact s12 _ _ (e3 _ _ ho)
  · rintro H1 ⟨bs, e1, e2, e3⟩
    exact q H1 _ e3 ⟨D, bs, rfl, SqL.of e1, L2.Paired.mapP e2 fun b ns z => SqL.of z.1⟩
/-! ### weights -/
/-- rows of field elements -/
def Rows (p : Int) (L : Nat) (R : List (List Int)) : Prop := ∀ r ∈ R, r.length = L ∧ Fe p r
def spWts (K : PySem.W.Frag) : Sp := fun vs H Q _ => ∃ (p : Int) (v : V) (x : Addr) (R : List (List Int)) (xs : List Int) (L : Nat), vs = [.int p, v, .ref x] ∧ TT K H v R ∧ SqT K H x (xs.map V.int) ∧ xs.length = L ∧ Fe p xs ∧ Rows p L R ∧ L ≤ 900 ∧ R.length ≤ 900 ∧ p ≤ 10007 ∧ PInv p ∧ (∀ a, 0 < a → a < p → K02.Cop p a) ∧
  (¬ InSp p L (R.map row) (row xs) → ∀ H', Same H H' → Q .non H') ∧ (∀ u, Wts p L (R.map row) (row xs) u → ∀ H' t, Same H H' → SqT K H' t (u.map V.int) → Q (.ref t) H')
theorem eqL_fe {p : Int} {L : Nat} {R : List (List Int)} {x : List Int} {i : Nat} (hi : i < L) (hR : Rows p L R) (xl : x.length = L) (hx : Fe p x) : Fe p (eqL R x i) := fun a m => by
  unfold eqL at m
  rcases List.mem_append.mp m with m | m
  · obtain ⟨r, mr, rfl⟩ := List.mem_map.mp m
    obtain ⟨rl, rf⟩ := hR r mr
    exact rf.row (by omega)
  · rw [List.mem_singleton.mp m]
    exact hx.row (by omega)
theorem lead_of {p : Int} {L : Nat} {R : List (List Int)} {x : List Int} {E : List Ent} {H : Hp} (ok : ∀ e ∈ E, EntOk p (R.length + 1) H e) (kl : ∀ v, Kl p (R.length + 1) v ((List.range L).map (eqL R x)) ↔ KlE p (R.length + 1) v E) :
    Lead p (R.map row) (row x) L (fun c f => ∃ e ∈ E, e.c = c ∧ row e.es = f) := by
  constructor
  · rintro c f ⟨e, m, rfl, rfl⟩
    rw [List.length_map]
    have := (ok e m).2.2.2
    exact ⟨by omega, this.2⟩
  · intro v
    rw [List.length_map]
    have dq : ∀ i, dot (R.length + 1) (eqn (R.map row) (row x) i) v = dot (R.length + 1) (row (eqL R x i)) v := fun i => sumF_cong fun k hk => by rw [eqL_row R x i k hk]
    constructor
    · rintro h c f ⟨e, m, rfl, rfl⟩
      refine (kl v).mp (fun ns mn => ?_) e m
      obtain ⟨i, mi, rfl⟩ := List.mem_map.mp mn
      rw [← dq]
      exact h i (List.mem_range.mp mi)
    · intro h i hi
      rw [dq]
      exact (kl v).mpr (fun e m => h _ _ ⟨e, m, rfl, rfl⟩) _ (List.mem_map.mpr ⟨i, List.mem_range.mpr hi, rfl⟩)
end
end K04
set_option Elab.async false
set_option pp.maxSteps 500
set_option pp.deepTerms.threshold 8
set_option pp.deepTerms false
set_option linter.all false
set_option maxRecDepth 100000
namespace K04
open PySem PySem.Spec PyProof.Rows L2 Lj
section
variable {P : Program} {w : World} {K : PySem.W.Frag} {mg : Str → Option Value} {base : Heap}
theorem range_sum (f : Nat → Int) : ∀ n : Nat, ((List.range n).map f).sum = sumF f n
  | 0 => rfl
  | n + 1 => by
    rw [List.range_succ, List.map_append, List.sum_append, range_sum f n, sumF]
    show _ + (f n + 0) = _
    rw [Int.add_zero]
theorem atI_last {ns : List Int} {m : Nat} (h : ns.length = m + 1) : atI (ns.map V.int) (-1) = some (.int (row ns m)) := by
  unfold atI ixN
  rw [if_neg (by decide), List.length_map, h, if_pos (by omega)]
  show (ns.map V.int)[((-1 : Int) + ((m + 1 : Nat) : Int)).toNat]? = _
  rw [show ((-1 : Int) + ((m + 1 : Nat) : Int)).toNat = m by omega]
  exact row_int (by omega)
theorem row_set {ns : List Int} {j i : Nat} {a : Int} (hj : j < ns.length) : row (ns.set j a) i = if i = j then a else row ns i := by
  unfold row
  rw [List.getD_eq_getElem?_getD, List.getD_eq_getElem?_getD, List.getElem?_set]
  by_cases e : j = i
  · rw [if_pos e, if_pos (by omega), if_pos e.symm]
    rfl
  · rw [if_neg e, if_neg fun z => e z.symm]
theorem fe_set {p a : Int} {ns : List Int} {j : Nat} (h : Fe p ns) (h0 : 0 ≤ a) (h1 : a < p) : Fe p (ns.set j a) := fun x m => by
  rcases List.mem_or_eq_of_mem_set m with m | rfl
  · exact h x m
  · exact ⟨h0, h1⟩
theorem fe_zero {p : Int} (hp : 0 < p) (n : Nat) : Fe p (List.replicate n 0) := fun x m => by
  rw [(List.mem_replicate.mp m).2]
  exact ⟨Int.le_refl 0, hp⟩
theorem row_rep (n i : Nat) : row (List.replicate n 0) i = 0 := by
  by_cases h : i < n
  · refine row_get ?_
    rw [List.getElem?_replicate, if_pos h]
  · exact row_out (by rw [List.length_replicate]; omega)
theorem flat_zero (n : Nat) : (List.replicate n [V.int 0]).flatten = (List.replicate n (0 : Int)).map V.int := by
  induction n with
  | zero => rfl
  | succ n ih =>
    rw [List.replicate_succ, List.flatten_cons, ih, List.replicate_succ]
    rfl
/-- the step of the way back -/
theorem back_step {p : Int} {m c : Nat} {es F : List Int} (hc : c < m) (fl : F.length = m) (bg : Begins c (row es)) : p ∣ dot (m + 1) (row es) (ext m (row (F.set c ((row es m - sumF (fun i => row es (c + 1 + i) * row F (c + 1 + i)) (m - (c + 1))) % p)))) := by
  rw [dot_begins bg (by omega), show m + 1 - (c + 1) = (m - (c + 1)) + 1 by omega, sumF, show c + 1 + (m - (c + 1)) = m by omega]
  have e1 : ∀ a, ext m (row (F.set c a)) c = a := fun a => by
    unfold ext
    rw [if_pos hc, row_set (by omega), if_pos rfl]
  have e2 : ∀ a, ext m (row (F.set c a)) m = -1 := fun a => by
    unfold ext
    rw [if_neg (Nat.lt_irrefl _)]
  have e3 : ∀ a, sumF (fun i => row es (c + 1 + i) * ext m (row (F.set c a)) (c + 1 + i)) (m - (c + 1)) = sumF (fun i => row es (c + 1 + i) * row F (c + 1 + i)) (m - (c + 1)) := fun a => sumF_cong fun k hk => by
    unfold ext
    rw [if_pos (by omega), row_set (by omega), if_neg (by omega)]
  rw [e1, e2, e3]
  obtain ⟨u, hu⟩ := emod_dvd p (row es m - sumF (fun i => row es (c + 1 + i) * row F (c + 1 + i)) (m - (c + 1)))
  exact ⟨u, by grind⟩
theorem back_keep {p a : Int} {m c d : Nat} {es F : List Int} (hc : c < d) (hd : d ≤ m) (fl : F.length = m) (bg : Begins d (row es)) (h : p ∣ dot (m + 1) (row es) (ext m (row F))) : p ∣ dot (m + 1) (row es) (ext m (row (F.set c a))) := by
  have e : dot (m + 1) (row es) (ext m (row (F.set c a))) = dot (m + 1) (row es) (ext m (row F)) := sumF_cong fun k hk => by
    by_cases z : k = c
    · rw [z, bg.1 c hc, Int.zero_mul, Int.zero_mul]
    · unfold ext
      rw [row_set (by omega), if_neg z]
  rw [e]
  exact h
theorem wts_of {p : Int} {L : Nat} {R : List (List Int)} {xs F : List Int} {E : List Ent} {H : Hp} (hp : 1 < p) (ok : ∀ e ∈ E, EntOk p (R.length + 1) H e) (kl : ∀ v, Kl p (R.length + 1) v ((List.range L).map (eqL R xs)) ↔ KlE p (R.length + 1) v E)
    (fl : F.length = R.length) (ff : Fe p F) (sol : ∀ e ∈ E, p ∣ dot (R.length + 1) (row e.es) (ext R.length (row F))) (z : ∀ k, (∀ e ∈ E, e.c ≠ k) → row F k = 0) : Wts p L (R.map row) (row xs) F := by
  have ld := lead_of ok kl
  refine ⟨by rw [List.length_map]; exact fl, ff, ?_, fun c hc nz => ?_⟩
  · exact ld.some (w := row F) fun c f ⟨e, m, ec, ef⟩ => by
      subst ef
      rw [List.length_map]
      exact sol e m
  · have : ∃ e ∈ E, e.c = c := Classical.byContradiction fun n => nz (z c fun e m ec => n ⟨e, m, ec⟩)
    obtain ⟨e, m, ec⟩ := this
    exact ld.new hp ⟨e, m, ec, rfl⟩ hc
theorem ok_wts (M : Bl mg) (m_sorted : mg "sorted" = none) (F : At K mg "weights" sWeights ["p", "rows", "row"]) {k : Nat} (h1 : Has P w K mg base k "echelon" ["p", "rows"] (spEch K)) (h2 : Has P w K mg base k "equations" ["rows", "row"] (spEqs K)) :
    Has P w K mg base (k + 1) "weights" ["p", "rows", "row"] (spWts K) := by
  obtain ⟨_, _, cEchelon⟩ := h1
  obtain ⟨_, _, cEquations⟩ := h2
  refine Has.by F scWeights (fun vs H Q E h => ?_) (fun g cdv A out s H vs Q E hg hr h => ?_)
  · obtain ⟨_, _, _, _, _, _, rfl, _⟩ := h
    rfl
  obtain ⟨p, v, x, R, xs, L, rfl, tt, sx, xl, xf, hR, hL, hRl, p7, pi, cop, q1, q2⟩ := h
  have p1 := pi.1
  obtain ⟨c, as, rfl, sq, pa⟩ := id tt
  have alen : as.length = R.length := Paired.length pa
  refine ⟨_, (pss_cons (ps_set (i := 3) scWeights.nd rfl (.inl rfl) (pe_cal cEchelon hg hr (by rfl) (pa_cons (pv 0) (pa_cons (pe_cal cEquations hg hr (by rfl) (pa_cons (pv 1) (pa_cons (pv 2) pa_nil))) pa_nil))))
  (pss_cons (ps_if (pt_cmp (pc_din (un1 hr) (pe_callB call_len_seq (by rfl) M.len_ (by decide +kernel) (pa_cons (pv 1) pa_nil)) (pv 3)))
    (pss_one (ps_ret pe_non))
    pss_nil)
  (pss_cons (ps_set (i := 4) scWeights.nd rfl (.inr rfl) (pe_op op_rep (pe_lst (pa_cons pe_int pa_nil)) (pe_callB call_len_seq (by rfl) M.len_ (by decide +kernel) (pa_cons (pv 1) pa_nil))))
  (pss_cons (ps_for PassesOwn.never rfl (pi_list (pe_callBK (cr_sortDR (b := true) rfl) (by rfl) m_sorted (by decide +kernel) (pa_cons (pv 3) pa_nil) (pk_cons pe_bl pk_nil))) (pg_name (i := 5) scWeights.nd rfl (.inl rfl))
    (pss_cons (ps_set (i := 6) scWeights.nd rfl (.inr rfl) (pe_dget (un1 hr) (pv 3) (pv 5) (fun _ _ => rfl)))
  (pss_cons (ps_set (i := 7) scWeights.nd rfl (.inl rfl) (pe_callB (cr_sum rfl) (by rfl) M.sum_ (by decide +kernel) (pa_cons (pe_lc (own := [("k", 8)]) (g := gName 8) (by rfl) scWeights.nd (pi_range2 (by rfl) M.range_ (pa_cons (pe_op op_add (pv 5) pe_int) (pa_cons (pe_callB call_len_seq (by rfl) M.len_ (by decide +kernel) (pa_cons (pv 1) pa_nil)) pa_nil))) (blkOk_by (own := [("k", 8)]) (N := ["p", "rows", "row", "leading", "found", "column", "equation", "later", "k"]) (sc := defScope sWeights) (by decide +kernel)) (fun _ _ _ _ _ => (pg_name (i := 8) scWeights.nd rfl (.inl rfl))) (fun _ _ _ _ _ => pts_nil) (fun _ _ _ _ _ => (pe_op op_mul (pe_ix (ix_listK (K := K) rfl) (pv 6) (pv 8) (fun _ _ => rfl)) (pe_ix (ix_listK (K := K) rfl) (pv 4) (pv 8) (fun _ _ => rfl))))) pa_nil)))
  (pss_one (ps_asg (pe_op op_mod (pe_op op_sub (pe_ix ix_list (pv 6) (pe_un un_neg pe_int) (fun _ _ => rfl)) (pv 7)) (pv 0)) (pg_sub (pv 4) (pv 5) set_list))))))
  (pss_one (ps_ret (pe_callTy call_tuple_of (by rfl) M.tuple_ (by decide +kernel) (pa_cons (pv 4) pa_nil)))))))), ?_⟩
  refine ⟨_, rfl, _, rfl, _, rfl, _, x, R, xs, L, rfl, tt, sx, xl, fun r m => (hR r m).1, by omega, by omega, fun H1 v1 s1 ll => ?_⟩
  refine ⟨p, v1, _, R.length + 1, rfl, ll, fun ns m => ?_, by omega, p7, pi, cop, fun H2 d E s2 nd dk ok nod _ kl => ?_⟩
  · obtain ⟨i, mi, rfl⟩ := List.mem_map.mp m
    exact ⟨eqL_len R xs i, eqL_fe (List.mem_range.mp mi) hR xl xf⟩
  have s12 := s1.trans s2
  have sq2 := (Kt.same s12).sq sq
  refine ⟨_, rfl, c, _, rfl, .inr sq2, ?_⟩
  rw [List.length_map, alen]
  refine ⟨_, rfl, d, valV (kvE E) (Sum.inl ((R.length : Nat) : Int)), rfl, DGet.k (k := Sum.inl ((R.length : Nat) : Int)) dk, _, rfl, ?_⟩
  cases hv : valV (kvE E) (Sum.inl ((R.length : Nat) : Int)) with
  | some w =>
    obtain ⟨e, me, ec, _⟩ := kvE_some hv
    refine iteT (q1 ?_ H2 s12)
    have ld := lead_of ok kl
    exact ld.none p1 (e := row e.es) ⟨e, me, by rw [List.length_map]; exact ec, rfl⟩
  | none =>
    have nol := kvE_none.mp hv
    have ltR : ∀ e ∈ E, e.c < R.length := fun e m => by
      have h1 := (ok e m).2.2.2.1
      have h2 := nol e m
      omega
    refine iteF ?_
    refine ⟨(by show 1 ≤ sizeLine; decide), fun l nl => ⟨_, rfl, c, _, rfl, .inr ((Kt.same (same_new nl)).sq sq2), ?_⟩⟩
    rw [List.length_map, alen]
    refine ⟨l, _, _, rfl, rfl, upd_same, by omega, by omega, ?_, fun fo nfo => ?_⟩
    · rw [sizeLine_eq]
      show 1 * _ ≤ _
      omega
    rw [show ((R.length : Nat) : Int).toNat = R.length by omega, flat_zero]
    have s3 : Same H2 _ := (same_new (o := .lst [V.int 0]) nl).trans (same_new (o := .lst ((List.replicate R.length (0 : Int)).map V.int)) nfo)
    have nH2 : H2 fo = none := (same_new (o := .lst [V.int 0]) nl).free nfo
    have d3 := s3 _ _ dk
    refine ⟨_, rfl, d, kvE E, E.map (fun e => ((e.c : Nat) : Int)), rfl, rfl, .inl d3, ?_, ?_, fun ys so perm ord nso => ?_⟩
    · unfold kvE
      rw [List.map_map, List.map_map]
      rfl
    · rw [List.length_map]
      have : (E.map (·.c)).length ≤ R.length := few nod fun c m => by
        obtain ⟨e, me, rfl⟩ := List.mem_map.mp m
        exact ltR e me
      rw [List.length_map] at this
      omega
    have s4 := same_new (o := .lst (ys.map V.int)) nso
    have nso' : fo ≠ so := ne_of_none (upd_same (a := fo) (o := .lst ((List.replicate R.length (0 : Int)).map V.int))) nso
    have ymem : ∀ y ∈ ys, ∃ e ∈ E, y = ((e.c : Nat) : Int) := fun y m => by
      obtain ⟨e, me, rfl⟩ := List.mem_map.mp (perm.mem_iff.mp m)
      exact ⟨e, me, rfl⟩
    have ord' : ys.Pairwise (· ≥ ·) := ord
    refine ⟨so, rfl, ⟨_, SqL.of upd_same⟩, ?_⟩
    refine for_list (xs := ys.map V.int) (fun i σ H' => ∃ y5 y6 y7 F, σ = [some (.int p), some (.ref c), some (.ref x), some (.ref d), some (.ref fo), y5, y6, y7, none] ∧ But fo (upd _ so (.lst (ys.map V.int))) H' ∧ H' fo = some (.lst (F.map V.int)) ∧ F.length = R.length ∧ Fe p F ∧ (∀ k, (∀ e ∈ E, e.c = k → ((e.c : Nat) : Int) ∉ ys.take i) → row F k = 0) ∧ ∀ e ∈ E, ((e.c : Nat) : Int) ∈ ys.take i → p ∣ dot (R.length + 1) (row e.es) (ext R.length (row F)))
      ⟨_, _, _, _, rfl, But.refl _ _, s4 _ _ upd_same, List.length_replicate, fe_zero (by omega) _, (fun k _ => row_rep _ _), fun e _ m => by rw [List.take_zero] at m; exact absurd m List.not_mem_nil⟩ (fun i σ H' _ ⟨_, _, _, _, _, b, _⟩ => b.seq nso'.symm (SqL.of upd_same)) ?_ ?_
    · rintro i y σ H5 hy ⟨y5, y6, y7, F, rfl, b5, fo5, fl, ff, fz, sol⟩
      rw [List.getElem?_map] at hy
      obtain ⟨z, ez, rfl⟩ := Option.map_eq_some_iff.mp hy
      obtain ⟨e, me, rfl⟩ := ymem z (List.mem_of_getElem? ez)
      have ec := ltR e me
      obtain ⟨eb, el, ef, _, ebg⟩ := ok e me
      have dne : d ≠ fo := ne_of_none dk nH2
      have ene : e.b ≠ fo := ne_of_none eb nH2
      have d5 := b5 _ _ dne (s4 _ _ d3)
      have eb5 := b5 _ _ ene (s4 _ _ (s3 _ _ eb))
      refine ⟨_, rfl, _, rfl, d, .ref e.b, rfl, ?_, ?_⟩
      · have g := DGet.k (k := Sum.inl ((e.c : Nat) : Int)) d5
        cases hw : valV (kvE E) (Sum.inl ((e.c : Nat) : Int)) with
        | none => exact absurd rfl (kvE_none.mp hw e me)
        | some u =>
          obtain ⟨e', me', ec', rfl⟩ := kvE_some hw
          have : e' = e := by
            have h := List.pairwise_iff_getElem.mp (List.nodup_iff_pairwise_ne.mp nod)
            obtain ⟨i1, h1, g1⟩ := List.mem_iff_getElem.mp me'
            obtain ⟨i2, h2, g2⟩ := List.mem_iff_getElem.mp me
            rcases Nat.lt_trichotomy i1 i2 with lt | eq | gt
            · have := h i1 i2 (by rw [List.length_map]; exact h1) (by rw [List.length_map]; exact h2) lt
              rw [List.getElem_map, List.getElem_map, g1, g2] at this
              exact absurd ec' this
            · subst eq
              exact g1.symm.trans g2
            · have := h i2 i1 (by rw [List.length_map]; exact h2) (by rw [List.length_map]; exact h1) gt
              rw [List.getElem_map, List.getElem_map, g1, g2] at this
              exact absurd ec'.symm this
          subst this
          rw [hw] at g
          exact g
      -- the sum
      refine ⟨_, rfl, _, _, rfl, rfl, _, rfl, c, as.map V.ref, rfl, .inr ?_, ?_⟩
      · exact (Kt.but b5 (s4 _ _ upd_same)).sq ((Kt.same (s3.trans s4)).sq sq2)
      rw [List.length_map, alen]
      refine ⟨_, _, rfl, ⟨by omega, by omega, by omega, by omega⟩, fun D nD => ?_⟩
      have sD := same_new (o := .lst []) nD
      have hn : (((R.length : Nat) : Int) - (((e.c : Nat) : Int) + 1)).toNat = R.length - (e.c + 1) := by omega
      refine lc_range (lo := ((e.c : Nat) : Int) + 1) (n := (((R.length : Nat) : Int) - (((e.c : Nat) : Int) + 1)).toNat) (fun j H' => H' D = some (.lst (((List.range j).map fun t => row e.es (e.c + 1 + t) * row F (e.c + 1 + t)).map V.int)) ∧ Same H5 H') ⟨upd_same, sD⟩ ?_ ?_
      · rintro j H6 hj ⟨f1, f2⟩
        have ej : ((e.c : Nat) : Int) + 1 + (j : Nat) = ((e.c + 1 + j : Nat) : Int) := by omega
        obtain ⟨b0, b1⟩ := ef.row (i := e.c + 1 + j) (by omega)
        refine ⟨rfl, _, rfl, _, rfl, e.b, _, _, .int (row e.es (e.c + 1 + j)), rfl, rfl, SqL.of (f2 _ _ eb5), by rw [ej]; exact atI_row (by omega), _, rfl, _, rfl, fo, _, _, .int (row F (e.c + 1 + j)), rfl, rfl, SqL.of (f2 _ _ fo5), by rw [ej]; exact atI_row (by omega), _, _, rfl, rfl, .inl ⟨by omega, by omega⟩, _, f1, ?_, ?_, fun b o ho => ?_⟩
        · rw [List.length_map, List.length_map, List.length_range, sizeLine_eq]
          omega
        · rw [upd_same, List.range_succ, List.map_append, List.map_append]
          rfl
        · rw [upd_ne (ne_of_none ho nD)]
          exact f2 _ _ ho
      rintro H6 ⟨f1, f2⟩
      rw [hn] at f1
      refine ⟨D, _, rfl, SqL.of f1, ?_⟩
      rw [range_sum]
      have eb6 := f2 _ _ eb5
      have fo6 := f2 _ _ fo5
      refine ⟨_, rfl, 1, rfl, e.b, _, _, .int (row e.es R.length), rfl, rfl, SqL.of eb6, atI_last el, _, rfl, _, _, rfl, rfl, _, rfl, _, p, rfl, rfl, by omega, ?_⟩
      refine ⟨_, rfl, _, rfl, fo, _, _, e.c, rfl, rfl, fo6, ?_, ?_⟩
      · rw [List.length_map, fl]
        exact Evl.ixN_nat (by omega)
      have set_ : (F.map V.int).set e.c (.int ((row e.es R.length - sumF (fun t => row e.es (e.c + 1 + t) * row F (e.c + 1 + t)) (R.length - (e.c + 1))) % p)) = (F.set e.c ((row e.es R.length - sumF (fun t => row e.es (e.c + 1 + t) * row F (e.c + 1 + t)) (R.length - (e.c + 1))) % p)).map V.int := by rw [List.map_set]
      rw [set_]
      have tk : ys.take (i + 1) = ys.take i ++ [((e.c : Nat) : Int)] := by rw [List.take_add_one, ez]; rfl
      refine ⟨_, _, _, _, rfl, fun b o ne ho => ?_, upd_same, by rw [List.length_set]; exact fl, fe_set ff (Int.emod_nonneg _ (by omega)) (Int.emod_lt_of_pos _ (by omega)), fun k hk => ?_, fun e' me' h' => ?_⟩
      · rw [upd_ne ne]
        exact f2 _ _ (b5 _ _ ne ho)
      · have kne : k ≠ e.c := fun z => hk e me z.symm (by rw [tk]; exact List.mem_append_right _ List.mem_cons_self)
        rw [row_set (by omega), if_neg kne]
        exact fz k fun e' me' ek hm => hk e' me' ek (by rw [tk]; exact List.mem_append_left _ hm)
      · rw [tk] at h'
        obtain ⟨eb', el', ef', ec', ebg'⟩ := ok e' me'
        by_cases z : e'.c = e.c
        · have ee : Begins e.c (row e'.es) := z ▸ ebg'
          -- the same entry, by its column
          have : e' = e := by
            have h := List.pairwise_iff_getElem.mp (List.nodup_iff_pairwise_ne.mp nod)
            obtain ⟨i1, h1, g1⟩ := List.mem_iff_getElem.mp me'
            obtain ⟨i2, h2, g2⟩ := List.mem_iff_getElem.mp me
            rcases Nat.lt_trichotomy i1 i2 with lt | eq | gt
            · have := h i1 i2 (by rw [List.length_map]; exact h1) (by rw [List.length_map]; exact h2) lt
              rw [List.getElem_map, List.getElem_map, g1, g2] at this
              exact absurd z this
            · subst eq
              exact g1.symm.trans g2
            · have := h i2 i1 (by rw [List.length_map]; exact h2) (by rw [List.length_map]; exact h1) gt
              rw [List.getElem_map, List.getElem_map, g1, g2] at this
              exact absurd z.symm this
          subst this
          exact back_step ec fl ebg
        · have h2 : ((e'.c : Nat) : Int) ∈ ys.take i := by
            rcases List.mem_append.mp h' with h' | h'
            · exact h'
            · have := List.mem_singleton.mp h'
              omega
          obtain ⟨n, hn, en⟩ := List.mem_iff_getElem.mp h2
          rw [List.length_take] at hn
          rw [List.getElem_take] at en
          have il : i < ys.length := (List.getElem?_eq_some_iff.mp ez).1
          have ge := List.pairwise_iff_getElem.mp ord' n i (by omega) il (by omega)
          rw [en, (List.getElem?_eq_some_iff.mp ez).2] at ge
          exact back_keep (by omega) (by omega) fl ebg' (sol e' me' h2)
    · rintro σ H5 ⟨y5, y6, y7, F, rfl, b5, fo5, fl, ff, fz, sol⟩
      rw [List.length_map, List.take_length] at fz sol
      have all_ : ∀ e ∈ E, ((e.c : Nat) : Int) ∈ ys := fun e m => perm.mem_iff.mpr (List.mem_map.mpr ⟨e, m, rfl⟩)
      refine ⟨_, rfl, fo, _, rfl, .inl ⟨SqL.of fo5, fun t nt => ?_⟩⟩
      refine q2 F (wts_of p1 ok kl fl ff (fun e m => sol e m (all_ e m)) fun k hk => fz k fun e m ek => absurd ek (hk e m)) _ t (fun b o ho => ?_) (SqT.of upd_same)
      have st := same_new (o := .tup (F.map V.int)) nt
      have h2 := s12 _ _ ho
      exact st _ _ (b5 _ _ (ne_of_none h2 nH2) (s4 _ _ (s3 _ _ h2)))
end
end K04
set_option Elab.async false
set_option pp.maxSteps 500
set_option pp.deepTerms.threshold 8
set_option pp.deepTerms false
set_option linter.all false
set_option maxRecDepth 100000
namespace K04
open PySem PySem.Spec PyProof.Rows L2 Lj
/-! ### the primes that are drawn -/
theorem prs_N {q : Int} (h : q ∈ prs) : ∃ n : Nat, q = (n : Int) ∧ n ∈ prsN := by
  have z : (prs.all fun q => prsN.any fun n => decide (q = (n : Int))) = true := by decide
  have k := List.any_eq_true.mp (List.all_eq_true.mp z q h)
  obtain ⟨n, m, e⟩ := k
  exact ⟨n, of_decide_eq_true e, m⟩
theorem prs_inv {q : Int} (h : q ∈ prs) : PInv q := by
  obtain ⟨n, rfl, m⟩ := prs_N h
  exact pinv_prs (List.mem_map.mpr ⟨n, m, rfl⟩)
theorem prs_cop {q : Int} (h : q ∈ prs) (a : Int) (a0 : 0 < a) (a1 : a < q) : K02.Cop q a := by
  have z : (prs.all fun q => K02.primes.any fun n => decide (q = (n : Int))) = true := by decide
  obtain ⟨n, m, e⟩ := List.any_eq_true.mp (List.all_eq_true.mp z q h)
  have e : q = (n : Int) := of_decide_eq_true e
  subst e
  exact K02.cop_prime (List.mem_map.mpr ⟨n, m, rfl⟩) a0 a1
/-! ### rows as data -/
theorem lay_of {f : List Int → PyData} (hf : ∀ ns, PyData.canLay0 (f ns) = true) : ∀ R : List (List Int), PyData.canLayAll0 (R.map f) = true
  | [] => by rw [List.map_nil, PyData.canLayAll0]
  | r :: R => by rw [List.map_cons, PyData.canLayAll0, hf r, lay_of hf R]; rfl
theorem depth_of {f : List Int → PyData} (hf : ∀ ns, PyData.depth (f ns) = 1) : ∀ R : List (List Int), PyData.depthAll (R.map f) ≤ 1
  | [] => by rw [List.map_nil, PyData.depthAll]; exact Nat.zero_le _
  | r :: R => by
    have := depth_of hf R
    rw [List.map_cons, PyData.depthAll, hf r]
    omega
def dL (ns : List Int) : PyData := .list (ns.map .int)
def dT (ns : List Int) : PyData := .tuple (ns.map .int)
theorem dL_lay (ns : List Int) : PyData.canLay0 (dL ns) = true := by unfold dL; rw [PyData.canLay0, lay_ints]
theorem dT_lay (ns : List Int) : PyData.canLay0 (dT ns) = true := by unfold dT; rw [PyData.canLay0, lay_ints]
theorem dL_dep (ns : List Int) : PyData.depth (dL ns) = 1 := by unfold dL; rw [PyData.depth, depth_ints]
theorem dT_dep (ns : List Int) : PyData.depth (dT ns) = 1 := by unfold dT; rw [PyData.depth, depth_ints]
theorem shaped_of {f : List Int → PyData} (h1 : ∀ ns, PyData.canLay0 (f ns) = true) (h2 : ∀ ns, PyData.depth (f ns) = 1) (R : List (List Int)) : SeqAt.shaped (.list (R.map f)) = true := by
  unfold SeqAt.shaped
  have := depth_of h2 R
  rw [PyData.canLay0, lay_of h1 R, PyData.depth, decide_eq_true (by omega)]
  rfl
theorem dp_LL {K : PySem.W.Frag} {H : Hp} : ∀ {as : List Addr} {R : List (List Int)}, Paired (fun a ns => SqL K H a (ns.map V.int)) as R → DpAll K H (as.map V.ref) (R.map dL)
  | _, _, .nil => .nil
  | _, _, .cons h t => .cons (.lst h (dp_ints _)) (dp_LL t)
theorem dp_TT {K : PySem.W.Frag} {H : Hp} : ∀ {as : List Addr} {R : List (List Int)}, Paired (fun a ns => SqT K H a (ns.map V.int)) as R → DpAll K H (as.map V.ref) (R.map dT)
  | _, _, .nil => .nil
  | _, _, .cons h t => .cons (.tup h (dp_ints _)) (dp_TT t)
theorem isEmpty_map {f : List Int → PyData} (R : List (List Int)) : (R.map f).isEmpty = R.isEmpty := by cases R <;> rfl
section
variable {P : Program} {w : World} {K : PySem.W.Frag} {mg : Str → Option Value} {base : Heap}
theorem ok_prime (F : At K mg "_law_prime" sPrime ["_law_urn_here"]) {k : Nat} (h : Has P w K mg base k "_law_of" ["_law_urn_here", "_law_items"] (spOf K)) : Has P w K mg base (k + 1) "_law_prime" ["_law_urn_here"] spPrimeU := by
  obtain ⟨_, _, cOf⟩ := h
  refine Has.by F scPrime (fun vs H Q E h => ?_) (fun f cdv A out s H vs Q E hg hr h => ?_)
  · obtain ⟨p, rfl, _⟩ := h
    rfl
  obtain ⟨p, rfl, hU, q⟩ := h
  refine ⟨_, (pss_one (ps_ret (pe_cal cOf hg hr (by rfl) (pa_cons (pv 0) (pa_cons (pe_lst (pa_cons pe_int (pa_cons pe_int (pa_cons pe_int (pa_cons pe_int (pa_cons pe_int (pa_cons pe_int (pa_cons pe_int (pa_cons pe_int (pa_cons pe_int (pa_cons pe_int (pa_cons pe_int (pa_cons pe_int (pa_cons pe_int pa_nil)))))))))))))) pa_nil))))), ?_⟩
  refine ⟨_, rfl, (by show 13 ≤ sizeLine; decide), fun l nl => ?_⟩
  refine ⟨p, l, _, rfl, hU.same (same_new nl), hU.ne nl, SqL.of upd_same, (by intro z; cases z), (by show 13 ≤ 1000; decide), fun x H' hx hU' hb => ?_⟩
  have hx2 : x ∈ prs.map V.int := hx
  obtain ⟨z, hz, rfl⟩ := List.mem_map.mp hx2
  exact q z H' hz hU' (But.trans (But.new nl) hb)
/-! ### a row that is drawn -/
def spTup (K : PySem.W.Frag) : Sp := fun vs H Q _ => ∃ (u : Addr) (q : Int) (n : Nat), vs = [.ref u, .int q, .int (n : Int)] ∧ Urn H u ∧ 2 ≤ q ∧ q ≤ 10007 ∧ n ≤ 1000 ∧
  ∀ ns H' t, ns.length = n → Fe q ns → SqT K H' t (ns.map V.int) → Urn H' u → But u H H' → Q (.ref t) H'
theorem ok_tup (M : Bl mg) (F : At K mg "_law_tuple" sTuple ["_law_urn_here", "_law_q", "_law_count"]) {k : Nat} (h1 : Has P w K mg base k "_law_of" ["_law_urn_here", "_law_items"] (spOf K)) (h2 : Has P w K mg base k "_law_take" ["_law_urn_here", "_law_below"] spTake) :
    Has P w K mg base (k + 1) "_law_tuple" ["_law_urn_here", "_law_q", "_law_count"] (spTup K) := by
  obtain ⟨_, _, cOf⟩ := h1
  obtain ⟨_, _, cTake⟩ := h2
  refine Has.by F scTuple (fun vs H Q E h => ?_) (fun f cdv A out s H vs Q E hg hr h => ?_)
  · obtain ⟨_, _, _, rfl, _⟩ := h
    rfl
  obtain ⟨u, q, n, rfl, hU, q2, q7, hn, qq⟩ := h
  refine ⟨_, (pss_one (ps_ret (pe_callTy call_tuple_of (by rfl) M.tuple_ (by decide +kernel) (pa_cons (pe_lc (own := [("_law_turn", 3)]) (g := gName 3) (by rfl) scTuple.nd (pi_range1 (by rfl) M.range_ (pa_cons (pv 2) pa_nil)) (blkOk_by (own := [("_law_turn", 3)]) (N := ["_law_urn_here", "_law_q", "_law_count", "_law_turn"]) (sc := defScope sTuple) (by decide +kernel)) (fun _ _ _ _ _ => (pg_name (i := 3) scTuple.nd rfl (.inl rfl))) (fun _ _ _ _ _ => pts_nil) (fun _ _ _ _ _ => (pe_cal cOf hg hr (by rfl) (pa_cons (pv 0) (pa_cons (pe_lst (pa_cons pe_int (pa_cons pe_int (pa_cons (pe_op op_sub (pv 1) pe_int) (pa_cons (pe_cal cTake hg hr (by rfl) (pa_cons (pv 0) (pa_cons (pv 1) pa_nil))) (pa_cons (pe_cal cTake hg hr (by rfl) (pa_cons (pv 0) (pa_cons (pv 1) pa_nil))) pa_nil)))))) pa_nil))))) pa_nil)))), ?_⟩
  refine ⟨_, rfl, _, rfl, by omega, by omega, fun D nD => ?_⟩
  have nDu : D ≠ u := hU.ne nD
  refine lc_range (lo := 0) (n := n) (fun i H' => ∃ ns : List Int, H' D = some (.lst (ns.map V.int)) ∧ ns.length = i ∧ Fe q ns ∧ Urn H' u ∧ But u H H') ⟨[], upd_same, rfl, (fun a m => absurd m List.not_mem_nil), hU.same (same_new nD), But.new nD⟩ ?_ ?_
  · rintro i H1 hi ⟨ns, e1, e2, e3, e4, e5⟩
    refine ⟨rfl, _, rfl, _, rfl, _, _, rfl, rfl, ?_⟩
    refine ⟨_, rfl, _, rfl, u, q, rfl, e4, by omega, wide_big (by omega) (by omega), fun a H2 a0 a1 u2 b2 => ?_⟩
    refine ⟨_, rfl, _, rfl, u, q, rfl, u2, by omega, wide_big (by omega) (by omega), fun b H3 b0 b1 u3 b3 => ?_⟩
    refine ⟨(by show 5 ≤ sizeLine; decide), fun l nl => ?_⟩
    have sl := same_new (o := .lst (([0, 1, q - 1, a, b] : List Int).map V.int)) nl
    have e1' := (b3 _ _ nDu (b2 _ _ nDu e1))
    have nlD : D ≠ l := ne_of_none e1' nl
    refine ⟨u, l, ([0, 1, q - 1, a, b] : List Int).map V.int, rfl, u3.same sl, u3.ne nl, SqL.of upd_same, List.cons_ne_nil _ _, (by show 5 ≤ 1000; decide), fun x H4 mx u4 b4 => ?_⟩
    obtain ⟨z, mz, rfl⟩ := List.mem_map.mp mx
    have zb : 0 ≤ z ∧ z < q := by
      simp only [List.mem_cons, List.not_mem_nil, or_false] at mz
      omega
    have e1'' := b4 _ _ nDu (sl _ _ e1')
    refine ⟨_, e1'', ?_, ns ++ [z], ?_, by rw [List.length_append, e2]; rfl, fun y my => ?_, u4.but (q := D) But.upd nDu.symm, fun y o ne ho => ?_⟩
    · rw [List.length_map, e2, sizeLine_eq]
      omega
    · rw [upd_same, List.map_append]
      rfl
    · rcases List.mem_append.mp my with my | my
      · exact e3 y my
      · rw [List.mem_singleton.mp my]
        exact zb
    · rw [upd_ne (ne_of_none ho nD)]
      exact b4 _ _ ne (sl _ _ (b3 _ _ ne (b2 _ _ ne (e5 _ _ ne ho))))
  · rintro H1 ⟨ns, e1, e2, e3, e4, e5⟩
    refine ⟨D, _, rfl, .inl ⟨SqL.of e1, fun t nt => ?_⟩⟩
    have st := same_new (o := .tup (ns.map V.int)) nt
    exact qq ns _ t e2 e3 (SqT.of upd_same) (e4.same st) (e5.trans (But.same st))
/-! ### the law's own inverse -/
def spLinv : Sp := fun vs H Q _ => ∃ (n a : Nat), vs = [.int (n : Int), .int (a : Int)] ∧ n ∈ prsN ∧ 0 < a ∧ a < n ∧ ∀ (r : Nat) H', r < n → a * r % n = 1 → Same H H' → Q (.int (r : Int)) H'
theorem prsN_bd {n : Nat} (h : n ∈ prsN) : 2 ≤ n ∧ n ≤ 10007 := by
  have z : (prsN.all fun n => decide (2 ≤ n) && decide (n ≤ 10007)) = true := by decide
  have k := List.all_eq_true.mp z n h
  rw [Bool.and_eq_true] at k
  exact ⟨of_decide_eq_true k.1, of_decide_eq_true k.2⟩
theorem ok_linv (F : At K mg "_law_inverse" sLinverse ["_law_q", "_law_a"]) {k : Nat} : Has P w K mg base (k + 1) "_law_inverse" ["_law_q", "_law_a"] spLinv := by
  refine Has.by F scLinverse (fun vs H Q E h => ?_) (fun f cdv A out s H vs Q E hg hr h => ?_)
  · obtain ⟨_, _, rfl, _⟩ := h
    rfl
  obtain ⟨n, a, rfl, hn, a0, a1, q⟩ := h
  obtain ⟨n2, n7⟩ := prsN_bd hn
  refine ⟨_, (pss_cons (ps_par3 (i := 2) (j := 3) (l := 4) (by rfl) scLinverse.nd rfl rfl rfl (by decide) (by decide) (by decide) rfl rfl rfl (pa_cons pe_int (pa_cons (pe_op op_mod (pv 1) (pv 0)) (pa_cons (pe_op op_sub (pv 0) pe_int) pa_nil))) (by rfl))
  (pss_cons (ps_while PassesOwn.never (pt_cmpR op_gt (pv 4) pe_int (nomark _))
    (pss_cons (ps_if (pt_cmpR op_eq (pe_op op_mod (pv 4) pe_int) pe_int (nomark _))
    (pss_one (ps_set (i := 2) scLinverse.nd rfl (.inl rfl) (pe_op op_mod (pe_op op_mul (pv 2) (pv 3)) (pv 0))))
    pss_nil)
  (pss_one (ps_par (i := 3) (j := 4) (by rfl) scLinverse.nd rfl rfl (by decide) rfl rfl (pa_cons (pe_op op_mod (pe_op op_mul (pv 3) (pv 3)) (pv 0)) (pa_cons (pe_op op_fdiv (pv 4) pe_int) pa_nil)) (by rfl)))))
  (pss_one (ps_ret (pv 2))))), ?_⟩
  refine ⟨_, rfl, _, rfl, (a : Int), (n : Int), rfl, rfl, by omega, _, rfl, _, _, rfl, rfl, _, _, _, rfl, ?_⟩
  have ea : ((a : Int) % (n : Int)) = ((a : Nat) : Int) := Int.emod_eq_of_lt (by omega) (by omega)
  have el : ((n : Int) - 2) = ((n - 2 : Nat) : Int) := by omega
  refine ⟨fun m σ H' => ∃ (f b l e : Nat), σ = [some (.int (n : Int)), some (.int (a : Int)), some (.int (f : Int)), some (.int (b : Int)), some (.int (l : Int))] ∧ Same H H' ∧ f < n ∧ b < n ∧ l < 2 ^ e ∧ l ≤ 10007 ∧ pmg e n f b l = pmg 14 n 1 a (n - 2) ∧ m = l, ⟨_, 1, a, n - 2, 14, ?_, Same.refl _, by omega, a1, by omega, by omega, rfl, rfl⟩, ?_⟩
  · show [some (V.int (n : Int)), some (V.int (a : Int)), some (V.int 1), some (V.int ((a : Int) % (n : Int))), some (V.int ((n : Int) - 2))] = _
    rw [ea, el]
    rfl
  rintro m σ H2 ⟨f, b, l, e, rfl, s2, fn, bn, le, l7, eq, em⟩
  refine ⟨_, rfl, (l : Int), 0, rfl, rfl, _, rfl, ite2 (fun c => ?_) (fun c => ?_)⟩
  · have l0 : l ≠ 0 := by
      have : (0 : Int) < (l : Int) := of_decide_eq_true c
      omega
    cases e with
    | zero =>
      have : l < 1 := le
      omega
    | succ e =>
      rw [pmg_step e n f b l l0] at eq
      have l2 : l / 2 < 2 ^ e := by
        have : 2 ^ (e + 1) = 2 ^ e * 2 := Nat.pow_succ ..
        omega
      have nn : 0 < n := by omega
      have bb : ((b : Int) * (b : Int)) % (n : Int) = ((b * b % n : Nat) : Int) := by rw [← Int.natCast_mul, ← Int.natCast_emod]
      have fb : ((f : Int) * (b : Int)) % (n : Int) = ((f * b % n : Nat) : Int) := by rw [← Int.natCast_mul, ← Int.natCast_emod]
      have hb : ∀ x : Nat, x % n < n := fun x => Nat.mod_lt _ nn
      refine ⟨fun σ' H' => ∃ f', σ' = [some (.int (n : Int)), some (.int (a : Int)), some (.int ((f' : Nat) : Int)), some (.int ((b * b % n : Nat) : Int)), some (.int ((l / 2 : Nat) : Int))] ∧ H' = H2 ∧ f' < n ∧ pmg e n f' (b * b % n) (l / 2) = pmg 14 n 1 a (n - 2), ?_, ?_⟩
      · rintro σ' H' ⟨f', rfl, rfl, f1, f2⟩
        exact ⟨l / 2, by omega, f', b * b % n, l / 2, e, rfl, s2, f1, hb _, l2, by omega, f2, rfl⟩
      refine ⟨_, rfl, (l : Int), 2, rfl, rfl, (by show (0 : Int) < 2; decide), rfl, _, rfl, ite2 (fun c2 => ?_) (fun c2 => ?_)⟩
      · have o1 : l % 2 = 1 := by
          have : (l : Int) % 2 = 1 := V.int.inj (of_decide_eq_true c2)
          omega
        rw [if_pos o1] at eq
        refine ⟨_, rfl, _, rfl, (f : Int), (b : Int), rfl, rfl, .inl ⟨by omega, by omega⟩, _, rfl, _, (n : Int), rfl, rfl, by omega, ?_⟩
        refine ⟨_, rfl, _, rfl, (b : Int), (b : Int), rfl, rfl, .inl ⟨by omega, by omega⟩, _, rfl, _, (n : Int), rfl, rfl, by omega, _, rfl, (l : Int), 2, rfl, rfl, ⟨by decide, by decide⟩, _, _, rfl, f * b % n, ?_, rfl, hb _, eq⟩
        show [some (V.int (n : Int)), some (V.int (a : Int)), some (V.int (((f : Int) * (b : Int)) % (n : Int))), some (V.int (((b : Int) * (b : Int)) % (n : Int))), some (V.int ((l : Int) / 2))] = _
        rw [bb, fb, show (l : Int) / 2 = ((l / 2 : Nat) : Int) by omega]
      · have o1 : ¬ l % 2 = 1 := fun z => c2 (decide_eq_true (congrArg V.int (show (l : Int) % 2 = 1 by omega)))
        rw [if_neg o1] at eq
        refine ⟨_, rfl, _, rfl, (b : Int), (b : Int), rfl, rfl, .inl ⟨by omega, by omega⟩, _, rfl, _, (n : Int), rfl, rfl, by omega, _, rfl, (l : Int), 2, rfl, rfl, ⟨by decide, by decide⟩, _, _, rfl, f, ?_, rfl, fn, eq⟩
        show [some (V.int (n : Int)), some (V.int (a : Int)), some (V.int (f : Int)), some (V.int (((b : Int) * (b : Int)) % (n : Int))), some (V.int ((l : Int) / 2))] = _
        rw [bb, show (l : Int) / 2 = ((l / 2 : Nat) : Int) by omega]
  · have l0 : l = 0 := by
      have : ¬ (0 : Int) < (l : Int) := of_decide_eq_false (Bool.eq_false_iff.mpr c)
      omega
    subst l0
    rw [pmg_zero] at eq
    refine ⟨_, rfl, q f H2 fn ?_ s2⟩
    rw [eq]
    exact pm_inv hn a0 a1
end
end K04
set_option Elab.async false
set_option pp.maxSteps 500
set_option pp.deepTerms.threshold 8
set_option pp.deepTerms false
set_option linter.all false
set_option maxRecDepth 100000
namespace K04
open PySem PySem.Spec PyProof.Rows L2 Lj
section
variable {P : Program} {w : World} {K : PySem.W.Frag} {mg : Str → Option Value} {base : Heap}
/-- rows in a list or a tuple that is not the urn -/
def RowsAny (K : PySem.W.Frag) (H : Hp) (u : Addr) (v : V) (R : List (List Int)) : Prop := ∃ (c : Addr) (as : List Addr), v = .ref c ∧ ((c ≠ u ∧ SqL K H c (as.map V.ref)) ∨ SqT K H c (as.map V.ref)) ∧ Paired (fun a ns => SqT K H a (ns.map V.int)) as R
theorem sqg_of {K : PySem.W.Frag} {H : Hp} {c u : Addr} {xs : List V} (hU : Urn H u) (h : (c ≠ u ∧ SqL K H c xs) ∨ SqT K H c xs) : ∃ G : Hp → Prop, SqG K c xs G ∧ ∀ H', But u H H' → G H' := by
  rcases h with ⟨n, h⟩ | h
  · exact ⟨fun H => SqL K H c xs, .inl fun H g => g, fun H' b => b.seq n h⟩
  · exact ⟨fun H => SqT K H c xs, .inr fun H g => g, fun H' b => (hU.kt b).sq h⟩
def spMixed (K : PySem.W.Frag) : Sp := fun vs H Q _ => ∃ (u : Addr) (q : Int) (v : V) (n : Nat) (R : List (List Int)), vs = [.ref u, .int q, v, .int (n : Int)] ∧ Urn H u ∧ 2 ≤ q ∧ q ≤ 10007 ∧ n ≤ 1000 ∧ RowsAny K H u v R ∧ Rows q n R ∧
  ∀ ns H' t, ns.length = n → Fe q ns → SqT K H' t (ns.map V.int) → Urn H' u → But u H H' → Q (.ref t) H'
theorem ok_mixed (M : Bl mg) (F : At K mg "_law_mixed" sMixed ["_law_urn_here", "_law_q", "_law_lines", "_law_length"]) {k : Nat} (h1 : Has P w K mg base k "_law_of" ["_law_urn_here", "_law_items"] (spOf K)) (h2 : Has P w K mg base k "_law_take" ["_law_urn_here", "_law_below"] spTake) :
    Has P w K mg base (k + 1) "_law_mixed" ["_law_urn_here", "_law_q", "_law_lines", "_law_length"] (spMixed K) := by
  obtain ⟨_, _, cOf⟩ := h1
  obtain ⟨_, _, cTake⟩ := h2
  refine Has.by F scMixed (fun vs H Q E h => ?_) (fun f cdv A out s H vs Q E hg hr h => ?_)
  · obtain ⟨_, _, _, _, _, rfl, _⟩ := h
    rfl
  obtain ⟨u, q, v, n, R, rfl, hU, q2, q7, hn, ⟨c, as, rfl, sc, pa⟩, hR, qq⟩ := h
  obtain ⟨G, sg, gk⟩ := sqg_of hU sc
  refine ⟨_, (pss_cons (ps_set (i := 4) scMixed.nd rfl (.inl rfl) (pe_op op_rep (pe_lst (pa_cons pe_int pa_nil)) (pv 3)))
  (pss_cons (ps_for PassesOwn.never rfl (pi_LT (pv 2)) (pg_name (i := 5) scMixed.nd rfl (.inl rfl))
    (pss_cons (ps_set (i := 6) scMixed.nd rfl (.inr rfl) (pe_cal cOf hg hr (by rfl) (pa_cons (pv 0) (pa_cons (pe_lst (pa_cons pe_int (pa_cons pe_int (pa_cons pe_int (pa_cons (pe_cal cTake hg hr (by rfl) (pa_cons (pv 0) (pa_cons (pv 1) pa_nil))) pa_nil))))) pa_nil))))
  (pss_one (ps_setLc (i := 4) (own := [("_law_mine", 7), ("_law_its", 8)]) (g := gTup K 2 (gCons (gName 7) (gCons (gName 8) gNil))) (by rfl) scMixed.nd rfl rfl (sw_true rfl rfl rfl (by decide +kernel)) (pi_zipLT (by rfl) M.zip_ (pa_cons (pv 4) (pa_cons (pv 5) pa_nil))) (blkOk_by (own := [("_law_mine", 7), ("_law_its", 8)]) (N := ["_law_urn_here", "_law_q", "_law_lines", "_law_length", "_law_found", "_law_line", "_law_factor", "_law_mine", "_law_its"]) (sc := defScope sMixed) (by decide +kernel)) (fun _ _ _ _ _ => (pg_tup rfl (pgs_cons (pg_name (i := 7) scMixed.nd rfl (.inl rfl)) (pgs_cons (pg_name (i := 8) scMixed.nd rfl (.inl rfl)) pgs_nil)))) (fun _ _ _ _ _ => pts_nil) (fun _ _ _ _ _ => (pe_op op_mod (pe_op op_add (pv 7) (pe_op op_mul (pv 6) (pv 8))) (pv 1)))))))
  (pss_one (ps_ret (pe_callTy call_tuple_of (by rfl) M.tuple_ (by decide +kernel) (pa_cons (pv 4) pa_nil)))))), ?_⟩
  refine ⟨(by show 1 ≤ sizeLine; decide), fun l nl => ⟨_, rfl, l, _, _, rfl, rfl, upd_same, by omega, by omega, ?_, fun fo nfo => ?_⟩⟩
  · rw [sizeLine_eq]
    show 1 * _ ≤ _
    omega
  rw [show ((n : Nat) : Int).toNat = n by omega, flat_zero]
  have s0 : Same H _ := (same_new (o := .lst [V.int 0]) nl).trans (same_new (o := .lst ((List.replicate n (0 : Int)).map V.int)) nfo)
  have nuf : fo ≠ u := (hU.same (same_new (o := .lst [V.int 0]) nl)).ne nfo
  refine ⟨_, rfl, c, as.map V.ref, G, rfl, sg, gk _ (But.same s0), ?_⟩
  refine for_it (walk_G2 (G := G) (xs := as.map V.ref)) (fun i σ H' => ∃ y5 y6 b ns, σ = [some (.ref u), some (.int q), some (.ref c), some (.int (n : Int)), some (.ref b), y5, y6, none, none] ∧ b ≠ u ∧ H' b = some (.lst (ns.map V.int)) ∧ ns.length = n ∧ Fe q ns ∧ Urn H' u ∧ But u H H') ⟨_, _, fo, _, rfl, nuf, upd_same, List.length_replicate, fe_zero (by omega) n, hU.same s0, But.same s0⟩ (fun i σ H' _ ⟨_, _, _, _, _, _, _, _, _, _, b⟩ => gk H' b) ?_ ?_
  · rintro i x σ H1 H2 hi ⟨y5, y6, b, ns, rfl, nbu, e1, e2, e3, e4, e5⟩ ⟨rfl, hx⟩
    rw [List.getElem?_map] at hx
    obtain ⟨a, ea, rfl⟩ := Option.map_eq_some_iff.mp hx
    obtain ⟨r, er, sa⟩ := paired_get pa ea
    obtain ⟨rl, rf⟩ := hR r (List.mem_of_getElem? er)
    refine ⟨_, rfl, _, rfl, _, rfl, u, q, rfl, e4, by omega, wide_big (by omega) (by omega), fun z H3 z0 z1 u3 b3 => ?_⟩
    refine ⟨(by show 4 ≤ sizeLine; decide), fun l4 nl4 => ?_⟩
    have s4 := same_new (o := .lst (([0, 0, 1, z] : List Int).map V.int)) nl4
    refine ⟨u, l4, ([0, 0, 1, z] : List Int).map V.int, rfl, u3.same s4, u3.ne nl4, SqL.of upd_same, List.cons_ne_nil _ _, (by show 4 ≤ 1000; decide), fun y H5 my u5 b5 => ?_⟩
    obtain ⟨fa, mf, rfl⟩ := List.mem_map.mp my
    have fb : 0 ≤ fa ∧ fa < q := by
      simp only [List.mem_cons, List.not_mem_nil, or_false] at mf
      omega
    have b15 : But u H2 H5 := (b3.trans (But.same s4)).trans b5
    have e1' := b15 _ _ nbu e1
    have nau : But u H H5 := e5.trans b15
    have sa5 : SqT K H5 a (r.map V.int) := (hU.kt nau).sq sa
    refine ⟨_, rfl, _, rfl, b, a, _, _, rfl, SqL.of e1', sa5, fun D nD => ?_⟩
    have nDu : D ≠ u := u5.ne nD
    have sD := same_new (o := .lst []) nD
    rw [List.length_map, List.length_map, e2, rl, Nat.min_self]
    refine lc_it (walk_F (n := n) (xs := ns.map V.int) (ys := r.map V.int)) (fun j H' => H' D = some (.lst ((List.zipWith (fun x y => (x + fa * y) % q) (ns.take j) (r.take j)).map V.int)) ∧ Same H5 H') ⟨upd_same, sD⟩ (fun j H' _ h => ⟨SqL.of (h.2 _ _ e1'), (Kt.same h.2).sq sa5⟩) ?_ ?_
    · rintro j x2 H6 H7 hj ⟨g1, g2⟩ ⟨T, x3, y3, rfl, nT, rfl, hx3, hy3⟩
      cases (row_int (ns := ns) (i := j) (by omega)).symm.trans hx3
      cases (row_int (ns := r) (i := j) (by omega)).symm.trans hy3
      have sT := same_new (o := .tup [V.int (row ns j), V.int (row r j)]) nT
      refine ⟨T, _, rfl, SqT.of upd_same, rfl, _, _, rfl, _, _, rfl, rfl, ?_⟩
      refine ⟨rfl, _, rfl, _, rfl, _, rfl, fa, _, rfl, rfl, .inl ⟨by omega, by omega⟩, _, _, rfl, rfl, _, rfl, _, q, rfl, rfl, by omega, _, sT _ _ g1, ?_, ?_, fun c o ho => ?_⟩
      · rw [List.length_map, List.length_zipWith, List.length_take, List.length_take, sizeLine_eq]
        omega
      · rw [upd_same, take_zip (row_at (by omega)) (row_at (by omega)), List.map_append]
        rfl
      · rw [upd_ne (ne_of_none ho nD)]
        exact sT _ _ (g2 _ _ ho)
    rintro H6 ⟨g1, g2⟩
    rw [← e2, List.take_length, e2, ← rl, List.take_length] at g1
    refine ⟨_, _, D, _, rfl, nDu, g1, by rw [List.length_zipWith]; omega, ?_, u5.same g2, nau.trans (But.same g2)⟩
    intro x m
    obtain ⟨j, hj, rfl⟩ := List.mem_iff_getElem.mp m
    rw [List.getElem_zipWith]
    exact ⟨Int.emod_nonneg _ (by omega), Int.emod_lt_of_pos _ (by omega)⟩
  · rintro σ H1 ⟨y5, y6, b, ns, rfl, nbu, e1, e2, e3, e4, e5⟩
    refine ⟨_, rfl, b, _, rfl, .inl ⟨SqL.of e1, fun t nt => ?_⟩⟩
    have st := same_new (o := .tup (ns.map V.int)) nt
    exact qq ns _ t e2 e3 (SqT.of upd_same) (e4.same st) (e5.trans (But.same st))
/-! ### rows that are drawn -/
def spRows (K : PySem.W.Frag) : Sp := fun vs H Q _ => ∃ (u : Addr) (q : Int) (m n : Nat), vs = [.ref u, .int q, .int (m : Int), .int (n : Int)] ∧ Urn H u ∧ 2 ≤ q ∧ q ≤ 10007 ∧ m ≤ 800 ∧ n ≤ 1000 ∧
  ∀ R v H', R.length = m → Rows q n R → TT K H' v R → Urn H' u → But u H H' → Q v H'
theorem ok_rows (M : Bl mg) (F : At K mg "_law_rows" sRows ["_law_urn_here", "_law_q", "_law_count", "_law_length"]) {k : Nat} (h1 : Has P w K mg base k "_law_of" ["_law_urn_here", "_law_items"] (spOf K)) (h2 : Has P w K mg base k "_law_take" ["_law_urn_here", "_law_below"] spTake)
    (h3 : Has P w K mg base k "_law_mixed" ["_law_urn_here", "_law_q", "_law_lines", "_law_length"] (spMixed K)) (h4 : Has P w K mg base k "_law_tuple" ["_law_urn_here", "_law_q", "_law_count"] (spTup K)) :
    Has P w K mg base (k + 1) "_law_rows" ["_law_urn_here", "_law_q", "_law_count", "_law_length"] (spRows K) := by
  obtain ⟨_, _, cOf⟩ := h1
  obtain ⟨_, _, cTake⟩ := h2
  obtain ⟨_, _, cMixed⟩ := h3
  obtain ⟨_, _, cTuple⟩ := h4
  refine Has.by F scRows (fun vs H Q E h => ?_) (fun f cdv A out s H vs Q E hg hr h => ?_)
  · obtain ⟨_, _, _, _, rfl, _⟩ := h
    rfl
  obtain ⟨u, q, m, n, rfl, hU, q2, q7, hm, hn, qq⟩ := h
  refine ⟨_, (pss_cons (ps_set (i := 4) scRows.nd rfl (.inl rfl) (pe_lst pa_nil))
  (pss_cons (ps_for PassesOwn.never rfl (pi_range1 (by rfl) M.range_ (pa_cons (pv 2) pa_nil)) (pg_name (i := 5) scRows.nd rfl (.inl rfl))
    (pss_cons (ps_set (i := 6) scRows.nd rfl (.inl rfl) (pe_cal cTake hg hr (by rfl) (pa_cons (pv 0) (pa_cons pe_int pa_nil))))
  (pss_one (ps_if (pt_cmpR op_eq (pv 6) pe_int (nomark _))
    (pss_one (ps_expr (pe_bm PySem.F.plainAttrs_list PySem.F.slot_list_append PySem.F.type_list_append mt_append (pv 4) (pa_cons (pe_cal cMixed hg hr (by rfl) (pa_cons (pv 0) (pa_cons (pv 1) (pa_cons (pv 4) (pa_cons (pv 3) pa_nil))))) pa_nil))))
    (pss_one (ps_if (PW.pt (pw_and (pt_cmpR op_eq (pv 6) pe_int (nomark _)) (pw_and1 (pt_cmpR (op_neD hr.units) (pv 4) (pe_lst pa_nil) (nomark _)))))
    (pss_one (ps_expr (pe_bm PySem.F.plainAttrs_list PySem.F.slot_list_append PySem.F.type_list_append mt_append (pv 4) (pa_cons (pe_cal cOf hg hr (by rfl) (pa_cons (pv 0) (pa_cons (pv 4) pa_nil))) pa_nil))))
    (pss_one (ps_expr (pe_bm PySem.F.plainAttrs_list PySem.F.slot_list_append PySem.F.type_list_append mt_append (pv 4) (pa_cons (pe_cal cTuple hg hr (by rfl) (pa_cons (pv 0) (pa_cons (pv 1) (pa_cons (pv 3) pa_nil)))) pa_nil))))))))))
  (pss_one (ps_ret (pe_callTy call_tuple_of (by rfl) M.tuple_ (by decide +kernel) (pa_cons (pv 4) pa_nil)))))), ?_⟩
  refine ⟨(by show 0 ≤ sizeLine; decide), fun fo nfo => ?_⟩
  have nfu : fo ≠ u := hU.ne nfo
  have sf := same_new (o := .lst []) nfo
  refine ⟨_, rfl, _, rfl, by omega, by omega, ?_⟩
  refine for_range (lo := 0) (n := m) (fun i σ H' => ∃ y5 y6 as R, σ = [some (.ref u), some (.int q), some (.int (m : Int)), some (.int (n : Int)), some (.ref fo), y5, y6] ∧ H' fo = some (.lst (as.map V.ref)) ∧ R.length = i ∧ Rows q n R ∧ Paired (fun a ns => SqT K H' a (ns.map V.int)) as R ∧ Urn H' u ∧ But u H H') ⟨_, _, [], [], rfl, upd_same, rfl, (fun r m => absurd m List.not_mem_nil), .nil, hU.same sf, But.same sf⟩ ?_ ?_
  · rintro i σ H1 hi ⟨y5, y6, as, R, rfl, e1, e2, e3, e4, e5, e6⟩
    have alen : as.length = R.length := Paired.length e4
    refine ⟨_, rfl, u, 4, rfl, e5, by decide, wide_big (by decide) (by decide), fun wy H2 w0 w1 u2 b2 => ?_⟩
    have f2 := b2 _ _ nfu e1
    have p2 := L2.Paired.mapP e4 fun a ns z => (e5.kt b2).sq z
    -- what is left when a row has come
    have fin : ∀ {ns : List Int} {t : Addr} {H3 : Hp} {x6 : Option V}, But u H2 H3 → Urn H3 u → SqT K H3 t (ns.map V.int) → ns.length = n → Fe q ns → (as.map V.ref).length < sizeLine ∧
        ∃ y5 y6 as' R', [some (V.ref u), some (V.int q), some (V.int (m : Int)), some (V.int (n : Int)), some (V.ref fo), some (V.int (0 + (i : Nat))), some (V.int wy)] = [some (V.ref u), some (V.int q), some (V.int (m : Int)), some (V.int (n : Int)), some (V.ref fo), y5, y6] ∧ (upd H3 fo (.lst (as.map V.ref ++ [V.ref t]))) fo = some (.lst (as'.map V.ref)) ∧ R'.length = i + 1 ∧ Rows q n R' ∧ Paired (fun a ns => SqT K (upd H3 fo (.lst (as.map V.ref ++ [V.ref t]))) a (ns.map V.int)) as' R' ∧ Urn (upd H3 fo (.lst (as.map V.ref ++ [V.ref t]))) u ∧ But u H (upd H3 fo (.lst (as.map V.ref ++ [V.ref t]))) := by
      intro ns t H3 x6 b3 u3 st nl nf
      have f3 := b3 _ _ nfu f2
      have kt : Kt H3 (upd H3 fo (.lst (as.map V.ref ++ [V.ref t]))) := Kt.but But.upd f3
      refine ⟨by rw [List.length_map, alen, e2, sizeLine_eq]; omega, _, _, as ++ [t], R ++ [ns], rfl, by rw [upd_same, List.map_append]; rfl, by rw [List.length_append, e2]; rfl, fun r mr => ?_, ?_, u3.but (q := fo) But.upd nfu.symm, fun x o ne ho => ?_⟩
      · rcases List.mem_append.mp mr with mr | mr
        · exact e3 r mr
        · rw [List.mem_singleton.mp mr]
          exact ⟨nl, nf⟩
      · exact paired_app (L2.Paired.mapP p2 fun a ns z => kt.sq ((u2.kt b3).sq z)) (.cons (kt.sq st) .nil)
      · rw [upd_ne (ne_of_none ho nfo)]
        exact b3 _ _ ne (b2 _ _ ne (e6 _ _ ne ho))
    refine ⟨_, rfl, rfl, _, rfl, ite2 (fun c => ?_) (fun c => ?_)⟩
    · refine ⟨_, rfl, .inl ⟨rfl, _, SqL.of f2⟩, _, rfl, _, rfl, _, rfl, _, rfl, u, q, _, n, R, rfl, u2, q2, q7, hn, ⟨fo, as, rfl, .inl ⟨nfu, SqL.of f2⟩, p2⟩, e3, fun ns H3 t nl nf st u3 b3 => ?_⟩
      obtain ⟨z1, z2⟩ := fin (x6 := none) b3 u3 st nl nf
      exact ⟨fo, _, _, rfl, rfl, b3 _ _ nfu f2, z1, z2⟩
    refine ⟨_, rfl, rfl, _, rfl, ?_⟩
    refine ite2 (fun c2 => ?_) (fun c2 => ?_)
    · refine ⟨_, rfl, (by show 0 ≤ sizeLine; decide), fun t0 nt0 => ?_⟩
      have s0 := same_new (o := .lst []) nt0
      refine ⟨.list (R.map dT), .list [], .lst (SqL.of (s0 _ _ f2)) (dp_TT (L2.Paired.mapP p2 fun a ns z => (Kt.same s0).sq z)), .lst (SqL.of upd_same) .nil, shaped_of dT_lay dT_dep R, shaped_nil, ?_⟩
      rw [eqv_nil, isEmpty_map]
      refine ⟨_, rfl, ?_⟩
      cases hR : R with
      | nil =>
        refine iteF ?_
        refine ⟨_, rfl, .inl ⟨rfl, _, SqL.of (s0 _ _ f2)⟩, _, rfl, _, rfl, _, rfl, u, q, n, rfl, u2.same s0, q2, q7, hn, fun ns H3 t nl nf st u3 b3 => ?_⟩
        have b03 := (But.same s0).trans b3
        obtain ⟨z1, z2⟩ := fin (x6 := none) b03 u3 st nl nf
        exact ⟨fo, _, _, rfl, rfl, b03 _ _ nfu f2, z1, z2⟩
      | cons r R' =>
        refine iteT ?_
        have ane : as ≠ [] := fun z => by
          rw [z, hR] at alen
          cases alen
        refine ⟨_, rfl, .inl ⟨rfl, _, SqL.of (s0 _ _ f2)⟩, _, rfl, _, rfl, u, fo, as.map V.ref, rfl, u2.same s0, nfu, SqL.of (s0 _ _ f2), (fun z => ane (List.map_eq_nil_iff.mp z)), by rw [List.length_map, alen, e2]; omega, fun x H3 mx u3 b3 => ?_⟩
        obtain ⟨a, ma, rfl⟩ := List.mem_map.mp mx
        obtain ⟨j, hj, ej⟩ := List.mem_iff_getElem.mp ma
        obtain ⟨ns, en, sa⟩ := paired_get p2 (i := j) (a := a) (by rw [List.getElem?_eq_getElem hj, ej])
        obtain ⟨nl, nf⟩ := e3 ns (List.mem_of_getElem? en)
        have b03 := (But.same s0).trans b3
        obtain ⟨z1, z2⟩ := fin (x6 := none) b03 u3 ((u2.kt b03).sq sa) nl nf
        exact ⟨fo, _, _, rfl, rfl, b03 _ _ nfu f2, z1, z2⟩
    · refine ⟨_, rfl, .inl ⟨rfl, _, SqL.of f2⟩, _, rfl, _, rfl, _, rfl, u, q, n, rfl, u2, q2, q7, hn, fun ns H3 t nl nf st u3 b3 => ?_⟩
      obtain ⟨z1, z2⟩ := fin (x6 := none) b3 u3 st nl nf
      exact ⟨fo, _, _, rfl, rfl, b3 _ _ nfu f2, z1, z2⟩
  · rintro σ H1 ⟨y5, y6, as, R, rfl, e1, e2, e3, e4, e5, e6⟩
    refine ⟨_, rfl, fo, _, rfl, .inl ⟨SqL.of e1, fun t nt => ?_⟩⟩
    have st := same_new (o := .tup (as.map V.ref)) nt
    exact qq R _ _ e2 e3 ⟨t, as, rfl, SqT.of upd_same, L2.Paired.mapP e4 fun a ns z => (Kt.same st).sq z⟩ (e5.same st) (e6.trans (But.same st))
end
end K04
set_option Elab.async false
set_option pp.maxSteps 500
set_option pp.deepTerms.threshold 8
set_option pp.deepTerms false
set_option linter.all false
set_option maxRecDepth 100000
namespace K04
open PySem PySem.Spec PyProof.Rows L2 Lj
section
variable {P : Program} {w : World} {K : PySem.W.Frag} {mg : Str → Option Value} {base : Heap}
/-- the rows r 0, r 1, .. as a list -/
def rws (r : Nat → List Int) (m : Nat) : List Lj.Row := (List.range m).map fun k => row (r k)
theorem rws_succ (r : Nat → List Int) (m : Nat) : rws r (m + 1) = rws r m ++ [row (r m)] := by
  unfold rws
  rw [List.range_succ, List.map_append]
  rfl
theorem rws_all (R : List (List Int)) : rws (fun k => R.getD k []) R.length = R.map row := by
  unfold rws
  refine List.ext_getElem (by simp) fun i h1 h2 => ?_
  rw [List.length_map, List.length_range] at h1
  rw [List.getElem_map, List.getElem_map, List.getElem_range]
  show row (R.getD i []) = row R[i]
  rw [List.getD_eq_getElem?_getD, List.getElem?_eq_getElem h1]
  rfl
/-- a multiple of the row l taken away, so that place at becomes 0 -/
def redI (q iv : Int) (L at_ : Nat) (l : List Int) (x : Lj.Row) : Lj.Row := fun i => if i < L then (x i - (x at_ * iv % q) * row l i) % q else 0
def redL (q iv : Int) (L at_ : Nat) (l x : List Int) : List Int := (List.range L).map fun i => (row x i - (row x at_ * iv % q) * row l i) % q
theorem redL_row {q iv : Int} {L at_ : Nat} {l x : List Int} : row (redL q iv L at_ l x) = redI q iv L at_ l (row x) := by
  funext i
  unfold redI redL
  by_cases h : i < L
  · rw [if_pos h]
    refine row_get ?_
    rw [List.getElem?_map, List.getElem?_range h]
    rfl
  · rw [if_neg h]
    exact row_out (by simp; omega)
theorem redL_len {q iv : Int} {L at_ : Nat} {l x : List Int} : (redL q iv L at_ l x).length = L := by
  unfold redL
  rw [List.length_map, List.length_range]
theorem redL_fe {q iv : Int} {L at_ : Nat} {l x : List Int} (hq : 0 < q) : Fe q (redL q iv L at_ l x) := fun a m => by
  obtain ⟨b, _, rfl⟩ := List.mem_map.mp m
  exact ⟨Int.emod_nonneg _ (by omega), Int.emod_lt_of_pos _ hq⟩
theorem dim_step {q iv : Int} {L at_ : Nat} {l : List Int} (hp : PInv q) (ha : at_ < L) (hn : ¬ q ∣ row l at_) (hi : q ∣ row l at_ * iv - 1) (r : Nat → List Int) (m : Nat) : dim q L (rws r m ++ [row l]) = 1 + dim q L (rws (fun k => redL q iv L at_ l (r k)) m) := by
  rw [dim_red (f := redI q iv L at_ l) (k := at_) hp ha hn (fun x => ⟨x at_ * iv % q, fun i h => ?_⟩) fun x => ?_]
  · congr 2
    unfold rws
    rw [List.map_map]
    refine List.map_congr_left fun k _ => ?_
    exact redL_row.symm
  · unfold redI
    rw [if_pos h]
    exact emod_dvd _ _
  · unfold redI
    rw [if_pos ha]
    obtain ⟨a, ea⟩ := emod_dvd q (x at_ - (x at_ * iv % q) * row l at_)
    obtain ⟨b, eb⟩ := emod_dvd q (x at_ * iv)
    obtain ⟨c, ec⟩ := hi
    exact ⟨a - b * row l at_ - x at_ * c, by grind⟩
def spRanked (K : PySem.W.Frag) : Sp := fun vs H Q _ => ∃ (n : Nat) (v : V) (R : List (List Int)) (L : Nat), vs = [.int (n : Int), v] ∧ n ∈ prsN ∧ TT K H v R ∧ Rows (n : Int) L R ∧ L ≤ 1000 ∧ R.length ≤ 1000 ∧ ∀ H', Same H H' → Q (.int ((dim (n : Int) L (R.map row) : Nat) : Int)) H'
/-- rows in lists of their own, at the addresses bs -/
structure Hold (H0 H : Hp) (q : Int) (L : Nat) (lf : Addr) (bs : List Addr) (r : Nat → List Int) : Prop where
  nd : bs.Nodup
  new : ∀ b ∈ bs, H0 b = none ∧ b ≠ lf
  at_ : ∀ k b, bs[k]? = some b → H b = some (.lst ((r k).map V.int))
  ok : ∀ k, k < bs.length → (r k).length = L ∧ Fe q (r k)
theorem Hold.keep {H0 H H' : Hp} {q : Int} {L : Nat} {lf : Addr} {bs : List Addr} {r : Nat → List Int} (h : Hold H0 H q L lf bs r) (k : ∀ b ∈ bs, ∀ o, H b = some o → H' b = some o) : Hold H0 H' q L lf bs r :=
  ⟨h.nd, h.new, fun j b e => k b (List.mem_of_getElem? e) _ (h.at_ j b e), h.ok⟩
theorem ok_ranked (M : Bl mg) (F : At K mg "_law_ranked" sRanked ["_law_q", "_law_lines"]) {k : Nat} (h1 : Has P w K mg base k "_law_inverse" ["_law_q", "_law_a"] spLinv) :
    Has P w K mg base (k + 1) "_law_ranked" ["_law_q", "_law_lines"] (spRanked K) := by
  obtain ⟨_, _, cLinverse⟩ := h1
  refine Has.by F scRanked (fun vs H Q E h => ?_) (fun f cdv A out s H vs Q E hg hr h => ?_)
  · obtain ⟨_, _, _, _, rfl, _⟩ := h
    rfl
  obtain ⟨n, v, R, L, rfl, hn, ⟨c, as, rfl, sq, pa⟩, hR, hL, hRl, qq⟩ := h
  obtain ⟨n2, n7⟩ := prsN_bd hn
  have hp : PInv (n : Int) := pinv_prs (List.mem_map.mpr ⟨n, hn, rfl⟩)
  have alen : as.length = R.length := Paired.length pa
  refine ⟨_, (pss_cons (ps_par (i := 3) (j := 4) (by rfl) scRanked.nd rfl rfl (by decide) rfl rfl (pa_cons (pe_lc (own := [("_law_line", 2)]) (g := gName 2) (by rfl) scRanked.nd (pi_tup (pv 1)) (blkOk_by (own := [("_law_line", 2)]) (N := ["_law_q", "_law_lines", "_law_line", "_law_left", "_law_found", "_law_at", "_law_item", "_law_places", "_law_other", "_law_factor", "_law_place"]) (sc := defScope sRanked) (by decide +kernel)) (fun _ _ _ _ _ => (pg_name (i := 2) scRanked.nd rfl (.inl rfl))) (fun _ _ _ _ _ => pts_nil) (fun _ _ _ _ _ => (pe_callTy (call_list_ofK (K := K) rfl) (by rfl) M.list_ (by decide +kernel) (pa_cons (pv 2) pa_nil)))) (pa_cons pe_int pa_nil)) (by rfl))
  (pss_cons (ps_while PassesOwn.never (pt_cmpR (op_neD hr.units) (pv 3) (pe_lst pa_nil) (nomark _))
    (pss_cons (ps_set (i := 2) scRanked.nd rfl (.inl rfl) (pe_bm0 PySem.F.plainAttrs_list PySem.F.slot_list_pop PySem.F.type_list_pop mt_pop (pv 3)))
  (pss_cons (ps_setLc (i := 7) (own := [("_law_at", 5), ("_law_item", 6)]) (g := gTup K 2 (gCons (gName 5) (gCons (gName 6) gNil))) (by rfl) scRanked.nd rfl rfl (sw_true rfl rfl rfl (by decide +kernel)) (pi_enum (by rfl) M.enumerate_ (pa_cons (pv 2) pa_nil)) (blkOk_by (own := [("_law_at", 5), ("_law_item", 6)]) (N := ["_law_q", "_law_lines", "_law_line", "_law_left", "_law_found", "_law_at", "_law_item", "_law_places", "_law_other", "_law_factor", "_law_place"]) (sc := defScope sRanked) (by decide +kernel)) (fun _ _ _ _ _ => (pg_tup rfl (pgs_cons (pg_name (i := 5) scRanked.nd rfl (.inl rfl)) (pgs_cons (pg_name (i := 6) scRanked.nd rfl (.inl rfl)) pgs_nil)))) (fun _ _ _ _ _ => (pts_one (pt_cmpR op_ne (pe_op op_mod (pv 6) (pv 0)) pe_int (nomark _)))) (fun _ _ _ _ _ => (pv 5)))
  (pss_one (ps_if (pt_cmpR (op_neD hr.units) (pv 7) (pe_lst pa_nil) (nomark _))
    (pss_cons (ps_par (i := 4) (j := 5) (by rfl) scRanked.nd rfl rfl (by decide) rfl rfl (pa_cons (pe_op op_add (pv 4) pe_int) (pa_cons (pe_ix ix_list (pv 7) pe_int (fun _ _ => rfl)) pa_nil)) (by rfl))
  (pss_one (ps_for PassesOwn.never rfl (pi_list (pv 3)) (pg_name (i := 8) scRanked.nd rfl (.inl rfl))
    (pss_cons (ps_set (i := 9) scRanked.nd rfl (.inl rfl) (pe_op op_mod (pe_op op_mul (pe_ix ix_list (pv 8) (pv 5) (fun _ _ => rfl)) (pe_cal cLinverse hg hr (by rfl) (pa_cons (pv 0) (pa_cons (pe_ix ix_list (pv 2) (pv 5) (fun _ _ => rfl)) pa_nil)))) (pv 0)))
  (pss_one (ps_for PassesOwn.never rfl (pi_enum (by rfl) M.enumerate_ (pa_cons (pv 2) pa_nil)) (pg_tup rfl (pgs_cons (pg_name (i := 10) scRanked.nd rfl (.inl rfl)) (pgs_cons (pg_name (i := 6) scRanked.nd rfl (.inl rfl)) pgs_nil)))
    (pss_one (ps_asg (pe_op op_mod (pe_op op_sub (pe_ix ix_list (pv 8) (pv 10) (fun _ _ => rfl)) (pe_op op_mul (pv 9) (pv 6))) (pv 0)) (pg_sub (pv 8) (pv 10) set_list)))))))))
    pss_nil)))))
  (pss_one (ps_ret (pv 4))))), ?_⟩
  refine ⟨_, rfl, c, rfl, ⟨_, sq⟩, fun lf nlf => ?_⟩
  refine lc_tup (xs := as.map V.ref) (fun i H' => ∃ bs, H' lf = some (.lst (bs.map V.ref)) ∧ bs.length = i ∧ Hold H H' (n : Int) L lf bs (fun k => R.getD k []) ∧ Same H H') ⟨[], upd_same, rfl, ⟨List.nodup_nil, (fun b m => absurd m List.not_mem_nil), (fun k b e => by simp at e), fun k h => absurd h (Nat.not_lt_zero _)⟩, same_new nlf⟩ (fun i H' _ ⟨_, _, _, _, s⟩ => (Kt.same s).sq sq) ?_ ?_
  · rintro i x H1 hx ⟨bs, e1, e2, e3, e4⟩
    rw [List.getElem?_map] at hx
    obtain ⟨a, ea, rfl⟩ := Option.map_eq_some_iff.mp hx
    obtain ⟨r, er, sa⟩ := paired_get pa ea
    obtain ⟨rl, rf⟩ := hR r (List.mem_of_getElem? er)
    refine ⟨rfl, _, rfl, a, _, rfl, .inr ((Kt.same e4).sq sa), fun t nt => ?_⟩
    have st := same_new (o := .lst (r.map V.int)) nt
    have ntl : t ≠ lf := (ne_of_none e1 nt).symm
    have il : i < as.length := (List.getElem?_eq_some_iff.mp ea).1
    have nb : t ∉ bs := fun m => by
      obtain ⟨j, hj, ej⟩ := List.mem_iff_getElem.mp m
      have := e3.at_ j t (by rw [List.getElem?_eq_getElem hj, ej])
      rw [nt] at this
      cases this
    refine ⟨_, st _ _ e1, ?_, bs ++ [t], by rw [upd_same, List.map_append]; rfl, by rw [List.length_append, e2]; rfl, ⟨?_, fun b m => ?_, fun j b e => ?_, fun j hj => ?_⟩, fun b o ho => ?_⟩
    · rw [List.length_map, e2, sizeLine_eq]
      omega
    · refine List.nodup_append.mpr ⟨e3.nd, List.nodup_cons.mpr ⟨List.not_mem_nil, List.nodup_nil⟩, fun x mx y my => ?_⟩
      rw [List.mem_singleton.mp my]
      exact fun z => nb (z ▸ mx)
    · rcases List.mem_append.mp m with m | m
      · exact e3.new b m
      · rw [List.mem_singleton.mp m]
        exact ⟨e4.free nt, ntl⟩
    · by_cases h : j < bs.length
      · rw [List.getElem?_append_left h] at e
        have mb := List.mem_of_getElem? e
        rw [upd_ne (e3.new b mb).2]
        exact st _ _ (e3.at_ j b e)
      · have hj : j = i := by
          have := (List.getElem?_eq_some_iff.mp e).1
          rw [List.length_append] at this
          have : j < bs.length + 1 := this
          omega
        rw [List.getElem?_append_right (by omega), hj, e2, Nat.sub_self] at e
        cases e
        rw [upd_ne ntl, upd_same, hj]
        show some (HO.lst (r.map V.int)) = some (HO.lst ((R.getD i []).map V.int))
        rw [List.getD_eq_getElem?_getD, er]
        rfl
    · have hj' : j < i + 1 := by
        rw [List.length_append, e2] at hj
        exact hj
      have jl : j < R.length := by omega
      show (R.getD j []).length = L ∧ Fe (n : Int) (R.getD j [])
      rw [List.getD_eq_getElem?_getD, List.getElem?_eq_getElem jl]
      exact hR _ (List.getElem_mem jl)
    · rw [upd_ne (ne_of_none ho nlf)]
      exact st _ _ (e4 _ _ ho)
  rintro H1 ⟨bs0, e1, e2, e3, e4⟩
  rw [List.length_map, alen] at e2
  refine ⟨_, _, rfl, ?_⟩
  -- the elimination
  refine ⟨fun mm σ H' => ∃ y2 y5 y6 y7 y8 y9 y10 bs r d, σ = [some (.int (n : Int)), some (.ref c), y2, some (.ref lf), some (.int ((d : Nat) : Int)), y5, y6, y7, y8, y9, y10] ∧ H' lf = some (.lst (bs.map V.ref)) ∧ Hold H H' (n : Int) L lf bs r ∧ Same H H' ∧ bs.length ≤ 1000 ∧ d + dim (n : Int) L (rws r bs.length) = dim (n : Int) L (R.map row) ∧ mm = bs.length, ⟨_, _, _, _, _, _, _, _, bs0, _, 0, rfl, e1, e3, e4, by omega, by rw [e2, rws_all, Nat.zero_add], rfl⟩, ?_⟩
  rintro mm σ H2 ⟨y2, y5, y6, y7, y8, y9, y10, bs, r, d, rfl, f1, f2, f3, f4, f5, rfl⟩
  refine ⟨_, rfl, (by show 0 ≤ sizeLine; decide), fun t0 nt0 => ?_⟩
  have s0 := same_new (o := .lst []) nt0
  have pL : Paired (fun a ns => SqL K (upd H2 t0 (.lst [])) a (ns.map V.int)) bs ((List.range bs.length).map r) := by
    have key : ∀ (l : List Addr) (o : Nat), (∀ k b, l[k]? = some b → H2 b = some (.lst ((r (o + k)).map V.int))) → Paired (fun a ns => SqL K (upd H2 t0 (.lst [])) a (ns.map V.int)) l ((List.range' o l.length).map r) := by
      intro l
      induction l with
      | nil => intro o _; exact .nil
      | cons a l ih =>
        intro o h
        rw [List.length_cons, List.range'_succ, List.map_cons]
        refine .cons (SqL.of (s0 _ _ (h 0 a rfl))) (ih (o + 1) fun k b e => ?_)
        rw [show o + 1 + k = o + (k + 1) by omega]
        exact h (k + 1) b e
    have := key bs 0 fun k b e => by rw [Nat.zero_add]; exact f2.at_ k b e
    rw [List.range_eq_range']
    exact this
  refine ⟨.list (((List.range bs.length).map r).map dL), .list [], .lst (SqL.of (s0 _ _ f1)) (dp_LL pL), .lst (SqL.of upd_same) .nil, shaped_of dL_lay dL_dep _, shaped_nil, ?_⟩
  rw [eqv_nil, isEmpty_map]
  refine ⟨_, rfl, ?_⟩
  cases hb : bs.reverse with
  | nil =>
    have : bs = [] := List.reverse_eq_nil_iff.mp hb
    subst this
    refine iteF ?_
    refine ⟨_, rfl, ?_⟩
    have z : dim (n : Int) L (rws r 0) = 0 := rfl
    have e : d = dim (n : Int) L (R.map row) := by
      rw [← f5]
      show d = d + dim (n : Int) L (rws r 0)
      rw [z, Nat.add_zero]
    rw [e]
    exact qq _ (f3.trans s0)
  | cons b rb =>
    have ebs : bs = rb.reverse ++ [b] := by rw [← List.reverse_reverse bs, hb, List.reverse_cons]
    obtain ⟨bs', hbs'⟩ : ∃ bs', bs' = rb.reverse := ⟨_, rfl⟩
    rw [← hbs'] at ebs
    have bl : bs.length = bs'.length + 1 := by rw [ebs, List.length_append]; rfl
    have tru : (!((List.range bs.length).map r).isEmpty) = true := by
      rw [bl, List.range_succ, List.map_append]
      cases ((List.range bs'.length).map r) <;> rfl
    rw [tru]
    refine iteT ?_
    have eb : bs[bs'.length]? = some b := by rw [ebs, List.getElem?_append_right (Nat.le_refl _), Nat.sub_self]; rfl
    have gb : H2 b = some (.lst ((r bs'.length).map V.int)) := f2.at_ _ b eb
    obtain ⟨ll, lfe⟩ := f2.ok bs'.length (by omega)
    obtain ⟨l, hl⟩ : ∃ l, l = r bs'.length := ⟨_, rfl⟩
    rw [← hl] at gb ll lfe
    have sub' : ∀ {x}, x ∈ bs' → x ∈ bs := fun {x} m => by rw [ebs]; exact List.mem_append_left _ m
    have nd' := f2.nd
    rw [ebs] at nd'
    obtain ⟨nd1, _, nd2⟩ := List.nodup_append.mp nd'
    have nbb : b ∉ bs' := fun m => nd2 b m b List.mem_cons_self rfl
    have nlb : b ≠ lf := (f2.new b (by rw [ebs]; exact List.mem_append_right _ List.mem_cons_self)).2
    have nHb : H b = none := (f2.new b (by rw [ebs]; exact List.mem_append_right _ List.mem_cons_self)).1
    refine ⟨fun σ' H' => ∃ y2 y5 y6 y7 y8 y9 y10 r' d', σ' = [some (.int (n : Int)), some (.ref c), y2, some (.ref lf), some (.int ((d' : Nat) : Int)), y5, y6, y7, y8, y9, y10] ∧ H' lf = some (.lst (bs'.map V.ref)) ∧ Hold H H' (n : Int) L lf bs' r' ∧ Same H H' ∧ d' + dim (n : Int) L (rws r' bs'.length) = dim (n : Int) L (R.map row), ?_, ?_⟩
    · rintro σ' H' ⟨z2, z5, z6, z7, z8, z9, z10, r', d', rfl, g1, g2, g3, g4⟩
      exact ⟨bs'.length, by omega, z2, z5, z6, z7, z8, z9, z10, bs', r', d', rfl, g1, g2, g3, by omega, g4, rfl⟩
    -- pop
    refine ⟨_, rfl, .inl ⟨rfl, _, SqL.of (s0 _ _ f1)⟩, lf, bs.map V.ref, .ref b, rfl, rfl, s0 _ _ f1, ?_, ?_⟩
    · rw [List.length_map, List.getElem?_map, bl, Nat.add_sub_cancel, eb]
      rfl
    have dl : (bs.map V.ref).dropLast = bs'.map V.ref := by
      rw [ebs, List.map_append]
      show (bs'.map V.ref ++ [V.ref b]).dropLast = _
      exact List.dropLast_concat
    rw [dl]
    obtain ⟨H3, hH3⟩ : ∃ H3, H3 = upd (upd H2 t0 (.lst [])) lf (.lst (bs'.map V.ref)) := ⟨_, rfl⟩
    rw [← hH3]
    have h3lf : H3 lf = some (.lst (bs'.map V.ref)) := by rw [hH3]; exact upd_same
    have h3k : ∀ x o, x ≠ lf → H2 x = some o → H3 x = some o := fun x o ne e => by
      rw [hH3, upd_ne ne]
      exact s0 _ _ e
    have s3 : Same H H3 := fun x o ho => h3k x o (ne_of_none ho nlf) (f3 _ _ ho)
    have gb3 := h3k _ _ nlb gb
    have hold3 : Hold H H3 (n : Int) L lf bs' r := ⟨nd1, fun x m => f2.new x (sub' m), fun j x e => h3k _ _ (f2.new x (sub' (List.mem_of_getElem? e))).2 (f2.at_ j x (by rw [ebs, List.getElem?_append_left (List.getElem?_eq_some_iff.mp e).1]; exact e)), fun j hj => f2.ok j (by omega)⟩
    have f5' : d + dim (n : Int) L (rws r bs'.length ++ [row l]) = dim (n : Int) L (R.map row) := by
      rw [← f5, bl, rws_succ, hl]
    -- places that are not 0
    refine ⟨_, rfl, b, _, rfl, SqL.of gb3, fun D nD => ?_⟩
    have nDlf : D ≠ lf := (ne_of_none h3lf nD).symm
    have nDb : D ≠ b := (ne_of_none gb3 nD).symm
    have sD := same_new (o := .lst []) nD
    have hlen : (l.map V.int).length = L := by rw [List.length_map]; exact ll
    refine lc_it (walk_enum (K := K) (a := b) (xs := l.map V.int)) (fun i H' => ∃ ps : List Int, H' D = some (.lst (ps.map V.int)) ∧ ps.length ≤ i ∧ (∀ z ∈ ps, ∃ k : Nat, z = (k : Int) ∧ k < L ∧ row l k % (n : Int) ≠ 0) ∧ (ps = [] → ∀ k, k < i → row l k % (n : Int) = 0) ∧ Same H3 H') ⟨[], upd_same, Nat.le_refl _, (fun z m => absurd m List.not_mem_nil), (fun _ k h => absurd h (Nat.not_lt_zero _)), sD⟩ (fun i H' _ ⟨_, _, _, _, _, s⟩ => SqL.of (s _ _ gb3)) ?_ ?_
    · rintro i x H4 H5 hi ⟨ps, g1, g2, g3, g4, g5⟩ ⟨T, u1, u2, rfl, nT, rfl, hu1, hu2⟩
      have hu1 : some (V.int (i : Nat)) = some u1 := hu1
      cases hu1
      cases (row_int (ns := l) (i := i) (by omega)).symm.trans hu2
      have sT := same_new (o := .tup [V.int (i : Nat), V.int (row l i)]) nT
      refine ⟨T, _, rfl, SqT.of upd_same, rfl, _, _, rfl, _, _, rfl, rfl, ?_⟩
      refine ⟨rfl, _, rfl, _, rfl, row l i, (n : Int), rfl, rfl, by omega, rfl, _, rfl, ite2 (fun cc => ?_) (fun cc => ?_)⟩
      · have nz : row l i % (n : Int) ≠ 0 := fun z => by
          have cc : (!decide (V.int (row l i % (n : Int)) = V.int 0)) = true := cc
          rw [decide_eq_true (congrArg V.int z)] at cc
          cases cc
        refine ⟨_, rfl, _, sT _ _ g1, ?_, ps ++ [(i : Int)], by rw [upd_same, List.map_append]; rfl, by rw [List.length_append]; exact Nat.succ_le_succ g2, fun z m => ?_, fun e => by simp at e, fun x o ho => ?_⟩
        · rw [List.length_map, sizeLine_eq]
          omega
        · rcases List.mem_append.mp m with m | m
          · exact g3 z m
          · rw [List.mem_singleton.mp m]
            exact ⟨i, rfl, by omega, nz⟩
        · rw [upd_ne (ne_of_none ho nD)]
          exact sT _ _ (g5 _ _ ho)
      · have z0 : row l i % (n : Int) = 0 := Classical.byContradiction fun z => cc (by
          show (!decide (V.int (row l i % (n : Int)) = V.int 0)) = true
          rw [decide_eq_false fun e => z (V.int.inj e)]
          rfl)
        exact ⟨ps, sT _ _ g1, by omega, g3, fun e k hk => by
          by_cases h : k = i
          · rw [h]; exact z0
          · exact g4 e k (by omega), g5.trans sT⟩
    rintro H4 ⟨ps, g1, g2, g3, g4, g5⟩
    rw [hlen] at g2 g4
    have h4lf := g5 _ _ h3lf
    have gb4 := g5 _ _ gb3
    have hold4 : Hold H H4 (n : Int) L lf bs' r := hold3.keep fun x m o e => g5 _ _ e
    -- is there one
    refine ⟨_, rfl, (by show 0 ≤ sizeLine; decide), fun t1 nt1 => ?_⟩
    have s1 := same_new (o := .lst []) nt1
    refine ⟨.list (ps.map .int), .list [], .lst (SqL.of (s1 _ _ g1)) (dp_ints ps), .lst (SqL.of upd_same) .nil, shaped_ints ps, shaped_nil, ?_⟩
    rw [eqv_nil]
    refine ⟨_, rfl, ?_⟩
    cases hps : ps with
    | nil =>
      refine iteF ?_
      refine ⟨_, _, _, _, _, _, _, r, d, rfl, s1 _ _ h4lf, hold4.keep fun x m o e => s1 _ _ e, (s3.trans g5).trans s1, ?_⟩
      rw [← f5', dim_zero hp fun i hi => Int.dvd_of_emod_eq_zero (g4 hps i hi)]
    | cons p0 pr =>
      refine iteT ?_
      obtain ⟨at_, eat, hat, hnz⟩ := g3 p0 (by rw [hps]; exact List.mem_cons_self)
      have ndv : ¬ (n : Int) ∣ row l at_ := fun z => hnz (Int.emod_eq_zero_of_dvd z)
      refine ⟨_, rfl, _, _, rfl, rfl, _, rfl, D, _, _, .int p0, rfl, rfl, SqL.of (s1 _ _ g1), by rw [hps]; exact at0, _, _, rfl, ?_⟩
      obtain ⟨a0, a1⟩ := lfe.row (i := at_) (by omega)
      have rz : row l at_ ≠ 0 := fun z => ndv (by rw [z]; exact Int.dvd_zero _)
      obtain ⟨an, ean⟩ : ∃ an : Nat, row l at_ = (an : Int) := ⟨(row l at_).toNat, by omega⟩
      obtain ⟨H5, hH5⟩ : ∃ H5, H5 = upd H4 t1 (.lst []) := ⟨_, rfl⟩
      rw [← hH5]
      have k45 : Same H4 H5 := by rw [hH5]; exact s1
      have h5lf := k45 _ _ h4lf
      have gb5 := k45 _ _ gb4
      have hold5 : Hold H H5 (n : Int) L lf bs' r := hold4.keep fun x m o e => k45 _ _ e
      have s5 : Same H H5 := (s3.trans g5).trans k45
      -- the inverse is the same at each turn
      obtain ⟨iv, hiv1, hiv2⟩ : ∃ iv : Nat, iv < n ∧ an * iv % n = 1 := ⟨pmg 14 n 1 an (n - 2) % n, Nat.mod_lt _ (by omega), by rw [Nat.mul_mod, Nat.mod_mod, ← Nat.mul_mod]; exact pm_inv hn (by omega) (by omega)⟩
      have uniq : ∀ x : Nat, x < n → an * x % n = 1 → x = iv := fun x hx ex => by
        have h1 : x * (an * iv) % n = x := by rw [Nat.mul_mod, hiv2, Nat.mul_one, Nat.mod_mod]; exact Nat.mod_eq_of_lt hx
        have h2 : iv * (an * x) % n = iv := by rw [Nat.mul_mod, ex, Nat.mul_one, Nat.mod_mod]; exact Nat.mod_eq_of_lt hiv1
        have h3 : x * (an * iv) = iv * (an * x) := by grind
        rw [h3] at h1
        exact h1.symm.trans h2
      have inv1 : (n : Int) ∣ row l at_ * (iv : Int) - 1 := by
        rw [ean]
        have e := Nat.div_add_mod (an * iv) n
        rw [hiv2] at e
        generalize an * iv / n = z at e
        exact ⟨(z : Int), by
          rw [← Int.natCast_mul, ← e, Int.natCast_add, Int.natCast_mul]
          show (n : Int) * (z : Int) + 1 - 1 = _
          omega⟩
      refine ⟨_, rfl, lf, rfl, ⟨_, SqL.of h5lf⟩, ?_⟩
      refine for_list (xs := bs'.map V.ref) (fun j σ H' => ∃ y6 y8 y9 y10, σ = [some (.int (n : Int)), some (.ref c), some (.ref b), some (.ref lf), some (.int (((d + 1 : Nat)) : Int)), some (.int p0), y6, some (.ref D), y8, y9, y10] ∧ H' lf = some (.lst (bs'.map V.ref)) ∧ H' b = some (.lst (l.map V.int)) ∧ Hold H H' (n : Int) L lf bs' (fun k => if k < j then redL (n : Int) (iv : Int) L at_ l (r k) else r k) ∧ Same H H')
        ⟨_, _, _, _, rfl, h5lf, gb5, ?_, s5⟩ (fun j σ H' _ ⟨_, _, _, _, _, e, _⟩ => SqL.of e) ?_ ?_
      · have : (fun k => if k < 0 then redL (n : Int) (iv : Int) L at_ l (r k) else r k) = r := by
          funext k
          rw [if_neg (Nat.not_lt_zero _)]
        rw [this]
        exact hold5
      · rintro j x σ H6 hx ⟨y6, y8, y9, y10, rfl, i1, i2, i3, i4⟩
        rw [List.getElem?_map] at hx
        obtain ⟨o, eo, rfl⟩ := Option.map_eq_some_iff.mp hx
        have mo := List.mem_of_getElem? eo
        have jl : j < bs'.length := (List.getElem?_eq_some_iff.mp eo).1
        have go : H6 o = some (.lst ((r j).map V.int)) := by
          have := i3.at_ j o eo
          rw [if_neg (Nat.lt_irrefl _)] at this
          exact this
        obtain ⟨rjl, rjf⟩ : (r j).length = L ∧ Fe (n : Int) (r j) := by
          have := i3.ok j jl
          rw [if_neg (Nat.lt_irrefl _)] at this
          exact this
        have nob : o ≠ b := fun z => nbb (z ▸ mo)
        obtain ⟨nHo, nol⟩ := i3.new o mo
        obtain ⟨o0, o1⟩ := rjf.row (i := at_) (by omega)
        refine ⟨_, rfl, _, rfl, o, _, _, .int (row (r j) at_), rfl, rfl, SqL.of go, by rw [eat]; exact atI_row (by omega), _, rfl, _, rfl, _, rfl, b, _, _, .int (row l at_), rfl, rfl, SqL.of i2, by rw [eat]; exact atI_row (by omega), ?_⟩
        refine ⟨n, an, by rw [ean], hn, by omega, by omega, fun x H7 hx ex s7 => ?_⟩
        have := uniq x hx ex
        subst this
        refine ⟨_, _, rfl, rfl, .inl ⟨by omega, by omega⟩, _, rfl, _, (n : Int), rfl, rfl, by omega, ?_⟩
        have go7 := s7 _ _ go
        have gb7 := s7 _ _ i2
        have hold7 := i3.keep (H' := H7) fun y m v e => s7 _ _ e
        have s67 : Same H H7 := i4.trans s7
        obtain ⟨fa, hfa⟩ : ∃ fa, fa = row (r j) at_ * (x : Int) % (n : Int) := ⟨_, rfl⟩
        have fb0 : 0 ≤ fa := by rw [hfa]; exact Int.emod_nonneg _ (by omega)
        have fb1 : fa < (n : Int) := by rw [hfa]; exact Int.emod_lt_of_pos _ (by omega)
        refine ⟨_, rfl, b, _, rfl, SqL.of gb7, ?_⟩
        refine for_it (walk_enum (K := K) (a := b) (xs := l.map V.int)) (fun t σ H' => ∃ y6 y10, σ = [some (.int (n : Int)), some (.ref c), some (.ref b), some (.ref lf), some (.int (((d + 1 : Nat)) : Int)), some (.int p0), y6, some (.ref D), some (.ref o), some (.int fa), y10] ∧ H' b = some (.lst (l.map V.int)) ∧ H' o = some (.lst (((List.range L).map fun k => if k < t then (row (r j) k - fa * row l k) % (n : Int) else row (r j) k).map V.int)) ∧ (∀ y v, y ≠ o → H7 y = some v → H' y = some v) ∧ Same H H')
          ⟨y6, y10, by rw [hfa]; rfl, gb7, ?_, (fun y v _ e => e), s67⟩ (fun t σ H' _ ⟨_, _, _, e, _⟩ => SqL.of e) ?_ ?_
        · have : ((List.range L).map fun k => if k < 0 then (row (r j) k - fa * row l k) % (n : Int) else row (r j) k) = r j := by
            refine List.ext_getElem (by rw [List.length_map, List.length_range, rjl]) fun k k1 k2 => ?_
            rw [List.getElem_map, List.getElem_range, if_neg (Nat.not_lt_zero _)]
            exact row_get (List.getElem?_eq_getElem k2)
          rw [this]
          exact go7
        · rintro t x2 σ H8 H9 ht ⟨z6, z10, rfl, j1, j2, j3, j4⟩ ⟨T, u1, u2, rfl, nT, rfl, hu1, hu2⟩
          have hu1 : some (V.int (t : Nat)) = some u1 := hu1
          cases hu1
          rw [hlen] at ht
          cases (row_int (ns := l) (i := t) (by omega)).symm.trans hu2
          have sT := same_new (o := .tup [V.int (t : Nat), V.int (row l t)]) nT
          have gl : ∀ k, k < L → row ((List.range L).map fun k => if k < t then (row (r j) k - fa * row l k) % (n : Int) else row (r j) k) k = if k < t then (row (r j) k - fa * row l k) % (n : Int) else row (r j) k := fun k hk => by
            refine row_get ?_
            rw [List.getElem?_map, List.getElem?_range hk]
            rfl
          refine ⟨T, _, rfl, SqT.of upd_same, rfl, _, _, rfl, _, _, rfl, rfl, ?_⟩
          refine ⟨_, rfl, _, rfl, o, _, _, .int (row ((List.range L).map fun k => if k < t then (row (r j) k - fa * row l k) % (n : Int) else row (r j) k) t), rfl, rfl, SqL.of (sT _ _ j2), atI_row (by rw [List.length_map, List.length_range]; exact ht), _, rfl, _, rfl, fa, _, rfl, rfl, .inl ⟨by omega, by omega⟩, _, _, rfl, rfl, _, rfl, _, (n : Int), rfl, rfl, by omega, ?_⟩
          rw [gl t ht, if_neg (Nat.lt_irrefl _)]
          refine ⟨_, rfl, _, rfl, o, _, _, t, rfl, rfl, sT _ _ j2, ?_, ?_⟩
          · rw [List.length_map, List.length_map, List.length_range]
            exact Evl.ixN_nat ht
          refine ⟨_, _, rfl, ?_, ?_, fun y v ny e => ?_, fun y v e => ?_⟩
          · rw [upd_ne nob.symm]
            exact sT _ _ j1
          · rw [upd_same, ← List.map_set]
            congr 3
            refine List.ext_getElem (by simp) fun k k1 k2 => ?_
            have kL : k < L := by simpa using k1
            rw [List.getElem_set, List.getElem_map, List.getElem_map, List.getElem_range]
            by_cases h : t = k
            · subst h
              rw [if_pos rfl, if_pos (Nat.lt_succ_self _)]
            · rw [if_neg h]
              by_cases h2 : k < t
              · rw [if_pos h2, if_pos (by omega)]
              · rw [if_neg h2, if_neg (by omega)]
          · rw [upd_ne ny]
            exact sT _ _ (j3 _ _ ny e)
          · rw [upd_ne (ne_of_none e nHo)]
            exact sT _ _ (j4 _ _ e)
        · rintro σ H8 ⟨z6, z10, rfl, j1, j2, j3, j4⟩
          rw [hlen] at j2
          have fl : ((List.range L).map fun k => if k < L then (row (r j) k - fa * row l k) % (n : Int) else row (r j) k) = redL (n : Int) (x : Int) L at_ l (r j) := by
            unfold redL
            refine List.map_congr_left fun k m => ?_
            rw [if_pos (List.mem_range.mp m), hfa]
          rw [fl] at j2
          refine ⟨_, _, _, _, rfl, j3 _ _ nol.symm (s7 _ _ i1), j1, ⟨hold7.nd, hold7.new, fun k y e => ?_, fun k hk => ?_⟩, j4⟩
          · by_cases h : k = j
            · subst h
              rw [eo] at e
              cases e
              rw [if_pos (Nat.lt_succ_self _)]
              exact j2
            · have ny : y ≠ o := fun z => by
                subst z
                obtain ⟨k1, k2⟩ := List.getElem?_eq_some_iff.mp e
                obtain ⟨k3, k4⟩ := List.getElem?_eq_some_iff.mp eo
                exact h ((List.getElem_inj hold7.nd).mp (k2.trans k4.symm))
              have := j3 _ _ ny (hold7.at_ k y e)
              rw [this]
              by_cases h2 : k < j
              · rw [if_pos h2, if_pos (by omega)]
              · rw [if_neg h2, if_neg (by omega)]
          · by_cases h2 : k < j + 1
            · rw [if_pos h2]
              exact ⟨redL_len, redL_fe (by omega)⟩
            · rw [if_neg h2]
              have := hold7.ok k hk
              rw [if_neg (by omega)] at this
              exact this
      · rintro σ H6 ⟨y6, y8, y9, y10, rfl, i1, i2, i3, i4⟩
        rw [List.length_map] at i3
        refine ⟨_, _, _, _, _, _, _, fun k => redL (n : Int) (iv : Int) L at_ l (r k), d + 1, rfl, i1, ⟨i3.nd, i3.new, fun k y e => ?_, fun k hk => ⟨redL_len, redL_fe (by omega)⟩⟩, i4, ?_⟩
        · have := i3.at_ k y e
          rw [if_pos (List.getElem?_eq_some_iff.mp e).1] at this
          exact this
        · rw [← f5', dim_step hp hat ndv inv1 r bs'.length]
          omega
end
end K04
set_option Elab.async false
set_option pp.maxSteps 500
set_option pp.deepTerms.threshold 8
set_option pp.deepTerms false
set_option linter.all false
set_option maxRecDepth 100000
namespace K04
open PySem PySem.Spec PyProof.Rows L2 Lj
theorem call_isiK {X : Cx} {K : PySem.W.Frag} (h : X.K = K) : CallR X (.builtin "isinstance") (rIsi K) := h ▸ call_isi
theorem sqT_ty {K : PySem.W.Frag} {H : Hp} {a : Addr} {xs : List V} (h : SqT K H a xs) : TyX K H (.ref a) (.type "tuple") := by
  rcases h with (h | ⟨o, h⟩) | ⟨o, its, n, h, c, _⟩
  · exact .base (.tup h)
  · exact .fTuple h
  · exact .kTuple h c
theorem tt_cut {K : PySem.W.Frag} {H : Hp} {a : Addr} {as : List Addr} {R : List (List Int)} {i : Nat} {Q : V → Hp → Prop} (sq : SqT K H a (as.map V.ref)) (pa : Paired (fun a ns => SqT K H a (ns.map V.int)) as R) (q : ∀ v' H', Same H H' → TT K H' v' (R.take i) → Q v' H') : rSlA K (.ref a) none (some (i : Int)) H Q := by
  have pt : ∀ {as : List Addr} {R : List (List Int)} (i : Nat), Paired (fun a ns => SqT K H a (ns.map V.int)) as R → Paired (fun a ns => SqT K H a (ns.map V.int)) (as.take i) (R.take i) := by
    intro as R i
    induction i generalizing as R with
    | zero => intro _; exact .nil
    | succ i ih =>
      intro h
      cases h with
      | nil => exact .nil
      | cons a b => exact .cons a (ih b)
  have ct := cut_to (as.map V.ref) i
  rw [← List.map_take] at ct
  refine ⟨a, _, rfl, sq, fun h => ?_, fun _ p np => ?_⟩
  · have cw := cut_whole _ _ _ h
    rw [ct] at cw
    exact q _ H (Same.refl H) ⟨a, as.take i, rfl, by rw [cw]; exact sq, pt i pa⟩
  · rw [ct]
    exact q _ _ (same_new np) ⟨p, as.take i, rfl, SqT.of upd_same, L2.Paired.mapP (pt i pa) fun a ns z => (Kt.same (same_new np)).sq z⟩
section
variable {P : Program} {w : World} {K : PySem.W.Frag} {mg : Str → Option Value} {base : Heap}
/-- the sums of the first i rows -/
def totL (q : Int) (L : Nat) (R : List (List Int)) (us : List Int) (i : Nat) : List Int := (List.range L).map fun k => sumF (fun j => ((R.map row).getD j fun _ => 0) k * us.getD j 0) i % q
theorem totL_len {q : Int} {L : Nat} {R : List (List Int)} {us : List Int} {i : Nat} : (totL q L R us i).length = L := by
  unfold totL
  rw [List.length_map, List.length_range]
theorem totL_row {q : Int} {L : Nat} {R : List (List Int)} {us : List Int} {i k : Nat} (hk : k < L) : row (totL q L R us i) k = sumF (fun j => ((R.map row).getD j fun _ => 0) k * us.getD j 0) i % q := by
  refine row_get ?_
  unfold totL
  rw [List.getElem?_map, List.getElem?_range hk]
  rfl
theorem totL_zero {q : Int} {L : Nat} {R : List (List Int)} {us : List Int} : totL q L R us 0 = List.replicate L 0 := by
  unfold totL
  have e : (fun k => sumF (fun j => ((R.map row).getD j fun _ => 0) k * us.getD j 0) 0 % q) = fun _ => 0 := funext fun k => Int.zero_emod _
  rw [e, List.map_const', List.length_range]
theorem totL_next {q : Int} {L i : Nat} {R : List (List Int)} {us r : List Int} (er : R[i]? = some r) (rl : r.length = L) : List.zipWith (fun x y => (x + us.getD i 0 * y) % q) (totL q L R us i) r = totL q L R us (i + 1) := by
  refine List.ext_getElem (by rw [List.length_zipWith, totL_len, totL_len, rl, Nat.min_self]) fun k h1 h2 => ?_
  rw [totL_len] at h2
  rw [List.getElem_zipWith]
  have e1 : (totL q L R us i)[k]'(by rw [totL_len]; exact h2) = sumF (fun j => ((R.map row).getD j fun _ => 0) k * us.getD j 0) i % q := by
    unfold totL
    rw [List.getElem_map, List.getElem_range]
  have e2 : (totL q L R us (i + 1))[k]'(by rw [totL_len]; exact h2) = sumF (fun j => ((R.map row).getD j fun _ => 0) k * us.getD j 0) (i + 1) % q := by
    unfold totL
    rw [List.getElem_map, List.getElem_range]
  rw [e1, e2, sumF]
  have e3 : ((R.map row).getD i fun _ => 0) k = r[k]'(by omega) := by
    rw [List.getD_eq_getElem?_getD, List.getElem?_map, er]
    exact row_get (List.getElem?_eq_getElem (by omega))
  rw [e3, Int.emod_add_emod, Int.mul_comm]
theorem totL_end {q : Int} {L : Nat} {R : List (List Int)} {us xs : List Int} (xl : xs.length = L) (xf : Fe q xs) (wt : Wts q L (R.map row) (row xs) us) : totL q L R us R.length = xs := by
  refine List.ext_getElem (by rw [totL_len, xl]) fun k h1 h2 => ?_
  rw [totL_len] at h1
  have e1 : (totL q L R us R.length)[k]'(by rw [totL_len]; exact h1) = sumF (fun j => ((R.map row).getD j fun _ => 0) k * us.getD j 0) R.length % q := by
    unfold totL
    rw [List.getElem_map, List.getElem_range]
  rw [e1]
  have e := wt.sum k h1
  rw [List.length_map] at e
  have ek : row xs k = xs[k] := row_get (List.getElem?_eq_getElem h2)
  obtain ⟨b0, b1⟩ := xf.row (i := k) (by omega)
  rw [← ek]
  have z : (row xs k - sumF (fun j => ((R.map row).getD j fun _ => 0) k * us.getD j 0) R.length) % q = 0 := Int.emod_eq_zero_of_dvd e
  have y := Int.emod_emod_of_dvd (row xs k) (Int.dvd_refl q)
  have : row xs k % q = sumF (fun j => ((R.map row).getD j fun _ => 0) k * us.getD j 0) R.length % q := Int.emod_eq_emod_iff_emod_sub_eq_zero.mpr z
  rw [← this]
  exact Int.emod_eq_of_lt b0 b1
def spShown (K : PySem.W.Frag) : Sp := fun vs H Q _ => ∃ (n : Nat) (v : V) (x t : Addr) (R : List (List Int)) (xs us : List Int) (L : Nat), vs = [.int (n : Int), v, .ref x, .ref t] ∧ n ∈ prsN ∧ TT K H v R ∧ Rows (n : Int) L R ∧ SqT K H x (xs.map V.int) ∧ xs.length = L ∧ Fe (n : Int) xs ∧ SqT K H t (us.map V.int) ∧ Wts (n : Int) L (R.map row) (row xs) us ∧ L ≤ 900 ∧ R.length ≤ 900 ∧ ∀ H', Same H H' → Q (.bl true) H'
theorem ok_shown (M : Bl mg) (F : At K mg "_law_shown" sShown ["_law_q", "_law_lines", "_law_line", "_law_told"]) {k : Nat} (h1 : Has P w K mg base k "_law_ranked" ["_law_q", "_law_lines"] (spRanked K)) :
    Has P w K mg base (k + 1) "_law_shown" ["_law_q", "_law_lines", "_law_line", "_law_told"] (spShown K) := by
  obtain ⟨_, _, cRanked⟩ := h1
  refine Has.by F scShown (fun vs H Q E h => ?_) (fun f cdv A out s H vs Q E hg hr h => ?_)
  · obtain ⟨_, _, _, _, _, _, _, _, rfl, _⟩ := h
    rfl
  obtain ⟨n, v, x, t, R, xs, us, L, rfl, hn, ⟨c, as, rfl, sq, pa⟩, hR, sx, xl, xf, st, wt, hL, hRl, qq⟩ := h
  obtain ⟨n2, n7⟩ := prsN_bd hn
  have alen : as.length = R.length := Paired.length pa
  have ulen : us.length = R.length := by rw [wt.len, List.length_map]
  refine ⟨_, (pss_cons (ps_if (PW.pt (pw_or (pt_not (pt_val (pe_callB call_isi (by rfl) M.isinstance_ (by decide +kernel) (pa_cons (pv 3) (pa_cons (pe_bltn (v := .ty "tuple") (by rfl) M.tuple_ (by decide +kernel) rfl) pa_nil))))) (pw_or1 (pt_cmpR op_ne (pe_callB call_len_seq (by rfl) M.len_ (by decide +kernel) (pa_cons (pv 3) pa_nil)) (pe_callB call_len_seq (by rfl) M.len_ (by decide +kernel) (pa_cons (pv 1) pa_nil)) (nomark _)))))
    (pss_one (ps_ret pe_bl))
    pss_nil)
  (pss_cons (ps_if (pt_not (pt_val (pe_callB (cr_all rfl) (by rfl) M.all_ (by decide +kernel) (pa_cons (pe_lc (own := [("_law_one", 10)]) (g := gName 10) (by rfl) scShown.nd (pi_tup (pv 3)) (blkOk_by (own := [("_law_one", 10)]) (N := ["_law_q", "_law_lines", "_law_line", "_law_told", "_law_at", "_law_total", "_law_weight", "_law_other", "_law_mine", "_law_its", "_law_one"]) (sc := defScope sShown) (by decide +kernel)) (fun _ _ _ _ _ => (pg_name (i := 10) scShown.nd rfl (.inl rfl))) (fun _ _ _ _ _ => pts_nil) (fun _ _ _ _ _ => (pe_and (pe_callB (call_isiK (K := K) rfl) (by rfl) M.isinstance_ (by decide +kernel) (pa_cons (pv 10) (pa_cons (pe_bltn (v := .ty "int") (by rfl) M.int_ (by decide +kernel) rfl) pa_nil))) (pe_and (pe_not (pe_callB (call_isiK (K := K) rfl) (by rfl) M.isinstance_ (by decide +kernel) (pa_cons (pv 10) (pa_cons (pe_bltn (v := .ty "bool") (by rfl) M.bool_ (by decide +kernel) rfl) pa_nil)))) (pe_one (pe_chain op_le op_lt pe_int (pv 10) (pv 0))))))) pa_nil))))
    (pss_one (ps_ret pe_bl))
    pss_nil)
  (pss_cons (ps_for PassesOwn.never rfl (pi_range1 (by rfl) M.range_ (pa_cons (pe_callB call_len_seq (by rfl) M.len_ (by decide +kernel) (pa_cons (pv 1) pa_nil)) pa_nil)) (pg_name (i := 4) scShown.nd rfl (.inl rfl))
    (pss_one (ps_if (PW.pt (pw_and (pt_cmpR op_ne (pe_ix ix_tup (pv 3) (pv 4) (fun _ _ => rfl)) pe_int (nomark _)) (pw_and1 (pt_cmpR op_eq (pe_cal cRanked hg hr (by rfl) (pa_cons (pv 0) (pa_cons (pe_slice sl_tupA (pv 1) po_none (po_some (pe_op op_add (pv 4) pe_int))) pa_nil))) (pe_cal cRanked hg hr (by rfl) (pa_cons (pv 0) (pa_cons (pe_slice sl_tupA (pv 1) po_none (po_some (pv 4))) pa_nil))) (nomark _)))))
    (pss_one (ps_ret pe_bl))
    pss_nil)))
  (pss_cons (ps_set (i := 5) scShown.nd rfl (.inl rfl) (pe_op op_rep (pe_lst (pa_cons pe_int pa_nil)) (pe_callB call_len_seq (by rfl) M.len_ (by decide +kernel) (pa_cons (pv 2) pa_nil))))
  (pss_cons (ps_for PassesOwn.never rfl (RZ.pi_zipA (by rfl) M.zip_ (pa_cons (pv 3) (pa_cons (pv 1) pa_nil))) (pg_tup rfl (pgs_cons (pg_name (i := 6) scShown.nd rfl (.inr rfl)) (pgs_cons (pg_name (i := 7) scShown.nd rfl (.inl rfl)) pgs_nil)))
    (pss_one (ps_setLc (i := 5) (own := [("_law_mine", 8), ("_law_its", 9)]) (g := gTup K 2 (gCons (gName 8) (gCons (gName 9) gNil))) (by rfl) scShown.nd rfl rfl (sw_true rfl rfl rfl (by decide +kernel)) (pi_zipLT (by rfl) M.zip_ (pa_cons (pv 5) (pa_cons (pv 7) pa_nil))) (blkOk_by (own := [("_law_mine", 8), ("_law_its", 9)]) (N := ["_law_q", "_law_lines", "_law_line", "_law_told", "_law_at", "_law_total", "_law_weight", "_law_other", "_law_mine", "_law_its", "_law_one"]) (sc := defScope sShown) (by decide +kernel)) (fun _ _ _ _ _ => (pg_tup rfl (pgs_cons (pg_name (i := 8) scShown.nd rfl (.inl rfl)) (pgs_cons (pg_name (i := 9) scShown.nd rfl (.inl rfl)) pgs_nil)))) (fun _ _ _ _ _ => pts_nil) (fun _ _ _ _ _ => (pe_op op_mod (pe_op op_add (pv 8) (pe_op op_mul (pv 6) (pv 9))) (pv 0))))))
  (pss_one (ps_ret (pe_cmpR (op_eqD hr.units) (pe_callTy call_tuple_of (by rfl) M.tuple_ (by decide +kernel) (pa_cons (pv 5) pa_nil)) (pv 2) (nomark _))))))))), ?_⟩
  refine ⟨_, rfl, _, _, _, _, true, rfl, .ty _, sqT_ty st, kit_ty (by decide +kernel), _, rfl, iteF ?_⟩
  refine ⟨_, rfl, t, _, rfl, .inr st, _, rfl, c, _, rfl, .inr sq, rfl, _, rfl, ?_⟩
  rw [List.length_map, List.length_map, alen, ulen]
  refine ifNN rfl ?_
  -- field elements
  refine ⟨_, rfl, t, rfl, ⟨_, st⟩, fun D nD => ?_⟩
  refine lc_tup (xs := us.map V.int) (fun i H' => H' D = some (.lst ((List.replicate i true).map V.bl)) ∧ Same H H') ⟨upd_same, same_new nD⟩ (fun i H' _ h => (Kt.same h.2).sq st) ?_ ?_
  · rintro i y H1 hy ⟨e1, e2⟩
    rw [List.getElem?_map] at hy
    obtain ⟨z, ez, rfl⟩ := Option.map_eq_some_iff.mp hy
    obtain ⟨b0, b1⟩ := wt.bd z (List.mem_of_getElem? ez)
    refine ⟨rfl, _, rfl, _, _, _, _, true, rfl, .ty _, .base (.int z), kit_ty (by decide +kernel), _, rfl, iteT ?_⟩
    refine ⟨_, rfl, _, _, _, _, false, rfl, .ty _, .base (.int z), kit_ty (by decide +kernel), _, rfl, _, rfl, iteT ?_⟩
    refine ⟨_, rfl, 0, z, rfl, rfl, _, rfl, ?_⟩
    rw [decide_eq_true b0]
    refine iteT ⟨_, rfl, z, (n : Int), rfl, rfl, ?_⟩
    refine ⟨_, e1, ?_, ?_, fun b o ho => ?_⟩
    · have il := (List.getElem?_eq_some_iff.mp ez).1
      rw [List.length_map, List.length_replicate, sizeLine_eq]
      omega
    · rw [upd_same]
      show some (HO.lst ((List.replicate i true).map V.bl ++ [V.bl (decide (z < (n : Int)))])) = _
      rw [decide_eq_true b1, List.replicate_succ', List.map_append]
      rfl
    · rw [upd_ne (ne_of_none ho nD)]
      exact e2 _ _ ho
  rintro H1 ⟨e1, e2⟩
  refine ⟨D, _, rfl, SqL.of e1, _, rfl, ?_⟩
  have allr : ∀ m : Nat, (List.replicate m true).all id = true := fun m => by
    induction m with
    | zero => rfl
    | succ m ih => rw [List.replicate_succ, List.all_cons, ih]; rfl
  rw [allr]
  refine iteF ?_
  -- no weight where it is not needed
  refine ⟨_, rfl, c, _, rfl, .inr ((Kt.same e2).sq sq), ?_⟩
  rw [List.length_map, alen]
  refine ⟨_, rfl, by omega, by omega, ?_⟩
  refine for_range (lo := 0) (n := R.length) (fun i σ H' => ∃ y4, σ = [some (.int (n : Int)), some (.ref c), some (.ref x), some (.ref t), y4, none, none, none, none, none, none] ∧ Same H H') ⟨_, rfl, e2⟩ ?_ ?_
  · rintro i σ H2 hi ⟨y4, rfl, s2⟩
    have z0 : (0 : Int) + (i : Nat) = (i : Nat) := by omega
    refine ⟨_, rfl, _, rfl, t, _, _, .int (row us i), rfl, rfl, (Kt.same s2).sq st, by rw [z0]; exact atI_row (by omega), rfl, _, rfl, ite2 (fun cc => ?_) (fun cc => ?_)⟩
    · have nz : row us i ≠ 0 := fun z => by
        have cc : (!decide (V.int (row us i) = V.int 0)) = true := cc
        rw [decide_eq_true (congrArg V.int z)] at cc
        cases cc
      have nin := wt.nz i (by rw [List.length_map]; exact hi) nz
      have sq2 := (Kt.same s2).sq sq
      have pa2 := L2.Paired.mapP pa fun a ns z => (Kt.same s2).sq z
      refine ⟨_, rfl, _, rfl, _, rfl, _, _, rfl, rfl, ((i + 1 : Nat) : Int), ?_, ?_⟩
      · show V.int ((0 : Int) + (i : Nat) + 1) = _
        rw [show (0 : Int) + (i : Nat) + 1 = ((i + 1 : Nat) : Int) by omega]
      refine tt_cut sq2 pa2 fun v3 H3 s3 tt3 => ?_
      refine ⟨n, v3, _, L, rfl, hn, tt3, fun r m => hR r (List.mem_of_mem_take m), by omega, by rw [List.length_take]; omega, fun H4 s4 => ?_⟩
      have s34 := s3.trans s4
      refine ⟨_, rfl, _, rfl, _, rfl, ((i : Nat) : Int), by rw [z0], ?_⟩
      refine tt_cut ((Kt.same s34).sq sq2) (L2.Paired.mapP pa2 fun a ns z => (Kt.same s34).sq z) fun v5 H5 s5 tt5 => ?_
      refine ⟨n, v5, _, L, rfl, hn, tt5, fun r m => hR r (List.mem_of_mem_take m), by omega, by rw [List.length_take]; omega, fun H6 s6 => ?_⟩
      have er : R[i]? = some R[i] := List.getElem?_eq_getElem hi
      have et : (R.take (i + 1)).map row = (R.take i).map row ++ [row R[i]] := by
        rw [List.take_add_one, er, List.map_append]
        rfl
      have nin' : ¬ InSp (n : Int) L ((R.take i).map row) (row R[i]) := by
        rw [← List.map_take, List.getD_eq_getElem?_getD, List.getElem?_map, er] at nin
        exact nin
      rw [et, dim_back, if_neg nin']
      refine ⟨rfl, _, rfl, iteN (fun z => ?_) ?_⟩
      · have z := V.int.inj z
        omega
      · exact ⟨_, rfl, ((s2.trans s34).trans s5).trans s6⟩
    · exact ⟨_, rfl, s2⟩
  rintro σ H2 ⟨y4, rfl, s2⟩
  -- the sum
  refine ⟨(by show 1 ≤ sizeLine; decide), fun l nl => ⟨_, rfl, x, _, rfl, .inr ((Kt.same (s2.trans (same_new nl))).sq sx), ?_⟩⟩
  rw [List.length_map, xl]
  refine ⟨l, _, _, rfl, rfl, upd_same, by omega, by omega, ?_, fun fo nfo => ?_⟩
  · rw [sizeLine_eq]
    show 1 * _ ≤ _
    omega
  rw [show ((L : Nat) : Int).toNat = L by omega, flat_zero]
  have s3 : Same H _ := (s2.trans (same_new (o := .lst [V.int 0]) nl)).trans (same_new (o := .lst ((List.replicate L (0 : Int)).map V.int)) nfo)
  refine ⟨_, rfl, _, rfl, t, c, _, _, rfl, .inr ⟨(Kt.same s3).sq st, (Kt.same s3).sq sq, ?_⟩⟩
  refine RZ.for_zipT (xs := us.map V.int) (ys := as.map V.ref) (by rw [List.length_map, List.length_map, ulen, alen]) (fun i σ H' => ∃ y4 y6 y7 b, σ = [some (.int (n : Int)), some (.ref c), some (.ref x), some (.ref t), y4, some (.ref b), y6, y7, none, none, none] ∧ H' b = some (.lst ((totL (n : Int) L R us i).map V.int)) ∧ Same H H') ⟨_, _, _, fo, rfl, by rw [totL_zero]; exact upd_same, s3⟩ (fun i σ H' ⟨_, _, _, _, _, _, s⟩ => ⟨(Kt.same s).sq st, (Kt.same s).sq sq⟩) ?_ ?_
  · rintro i u1 u2 T σ H4 hu1 hu2 ⟨z4, z6, z7, b, rfl, f1, f2⟩ nT
    rw [List.getElem?_map] at hu1 hu2
    obtain ⟨uw, ew, rfl⟩ := Option.map_eq_some_iff.mp hu1
    obtain ⟨a, ea, rfl⟩ := Option.map_eq_some_iff.mp hu2
    obtain ⟨r, er, sa⟩ := paired_get pa ea
    obtain ⟨rl, rf⟩ := hR r (List.mem_of_getElem? er)
    obtain ⟨w0, w1⟩ := wt.bd uw (List.mem_of_getElem? ew)
    have sT := same_new (o := .tup [V.int uw, V.ref a]) nT
    have f1' := sT _ _ f1
    have sa' := (Kt.same (f2.trans sT)).sq sa
    refine ⟨T, _, rfl, SqT.of upd_same, rfl, _, _, rfl, _, _, rfl, rfl, ?_⟩
    refine ⟨_, rfl, _, rfl, b, a, _, _, rfl, SqL.of f1', sa', fun D2 nD2 => ?_⟩
    rw [List.length_map, List.length_map, totL_len, rl, Nat.min_self]
    refine lc_it (walk_F (n := L) (xs := (totL (n : Int) L R us i).map V.int) (ys := r.map V.int)) (fun j H' => H' D2 = some (.lst ((List.zipWith (fun x y => (x + uw * y) % (n : Int)) ((totL (n : Int) L R us i).take j) (r.take j)).map V.int)) ∧ Same (upd H4 T (.tup [V.int uw, V.ref a])) H') ⟨upd_same, same_new nD2⟩ (fun j H' _ h => ⟨SqL.of (h.2 _ _ f1'), (Kt.same h.2).sq sa'⟩) ?_ ?_
    · rintro j x2 H6 H7 hj ⟨g1, g2⟩ ⟨T2, x3, y3, rfl, nT2, rfl, hx3, hy3⟩
      have tl : j < (totL (n : Int) L R us i).length := by rw [totL_len]; exact hj
      cases (row_int tl).symm.trans hx3
      cases (row_int (ns := r) (i := j) (by omega)).symm.trans hy3
      have sT2 := same_new (o := .tup [V.int (row (totL (n : Int) L R us i) j), V.int (row r j)]) nT2
      refine ⟨T2, _, rfl, SqT.of upd_same, rfl, _, _, rfl, _, _, rfl, rfl, ?_⟩
      refine ⟨rfl, _, rfl, _, rfl, _, rfl, uw, _, rfl, rfl, .inl ⟨by omega, by omega⟩, _, _, rfl, rfl, _, rfl, _, (n : Int), rfl, rfl, by omega, _, sT2 _ _ g1, ?_, ?_, fun c o ho => ?_⟩
      · rw [List.length_map, List.length_zipWith, List.length_take, List.length_take, totL_len, sizeLine_eq]
        omega
      · rw [upd_same, take_zip (row_at tl) (row_at (by omega)), List.map_append]
        rfl
      · rw [upd_ne (ne_of_none ho nD2)]
        exact sT2 _ _ (g2 _ _ ho)
    rintro H6 ⟨g1, g2⟩
    have ew2 : us.getD i 0 = uw := by rw [List.getD_eq_getElem?_getD, ew]; rfl
    have tk1 : (totL (n : Int) L R us i).take L = totL (n : Int) L R us i := List.take_of_length_le (by rw [totL_len]; exact Nat.le_refl _)
    have tk2 : r.take L = r := List.take_of_length_le (by omega)
    rw [tk1, tk2, ← ew2, totL_next er rl] at g1
    exact ⟨_, _, _, D2, rfl, g1, (f2.trans sT).trans g2⟩
  · rintro σ H4 ⟨z4, z6, z7, b, rfl, f1, f2⟩
    rw [List.length_map, ulen, totL_end xl xf wt] at f1
    refine ⟨_, rfl, b, _, rfl, .inl ⟨SqL.of f1, fun t2 nt2 => ?_⟩⟩
    have s5 := same_new (o := .tup (xs.map V.int)) nt2
    refine ⟨_, rfl, dT xs, dT xs, .tup (SqT.of upd_same) (dp_ints xs), .tup ((Kt.same (f2.trans s5)).sq sx) (dp_ints xs), ?_, ?_, ?_⟩
    · unfold SeqAt.shaped
      rw [dT_lay, dT_dep]
      rfl
    · unfold SeqAt.shaped
      rw [dT_lay, dT_dep]
      rfl
    rw [PySem.SeqAt.eqv_refl _ (dT_lay xs)]
    exact qq _ (f2.trans s5)
end
end K04
set_option Elab.async false
set_option pp.maxSteps 500
set_option pp.deepTerms.threshold 8
set_option pp.deepTerms false
set_option linter.all false
set_option maxRecDepth 100000
namespace K04
open PySem PySem.Spec PyProof.Rows L2 Lj
/-! ### how rows are shown -/
theorem all_show {B : Nat} : ∀ {ds : List PyData}, (∀ d ∈ ds, d.showable = true ∧ d.hasDict = false ∧ d.depth ≤ 1 ∧ d.shown.length ≤ B) → PyData.showableAll ds = true ∧ PyData.hasDictAll ds = false ∧ PyData.depthAll ds ≤ 1 ∧ ((PyData.shownAll ds).map (·.length)).sum ≤ B * ds.length ∧ (PyData.shownAll ds).length = ds.length
  | [], _ => ⟨by rw [PyData.showableAll], by rw [PyData.hasDictAll], by rw [PyData.depthAll]; exact Nat.zero_le _, by rw [PyData.shownAll]; exact Nat.zero_le _, by rw [PyData.shownAll]; rfl⟩
  | d :: r, h => by
    obtain ⟨a1, a2, a3, a4⟩ := h d List.mem_cons_self
    obtain ⟨b1, b2, b3, b4, b5⟩ := all_show (ds := r) fun x m => h x (List.mem_cons_of_mem _ m)
    refine ⟨by rw [PyData.showableAll, a1, b1]; rfl, by rw [PyData.hasDictAll, a2, b2]; rfl, by rw [PyData.depthAll]; omega, ?_, by rw [PyData.shownAll, List.length_cons, b5, List.length_cons]⟩
    rw [PyData.shownAll, List.map_cons, List.sum_cons, List.length_cons, Nat.mul_succ]
    omega
theorem small_ints {q : Int} {ns : List Int} (hq : q ≤ 10007) (h : Fe q ns) : ∀ n ∈ ns, n.natAbs < 2 ^ 1000 := fun a m => by
  have big : (20000 : Nat) < 2 ^ 1000 := by decide +kernel
  have := h a m
  omega
theorem dT_show {q : Int} {ns : List Int} (hq : q ≤ 10007) (h : Fe q ns) (l : ns.length ≤ 60) : (dT ns).showable = true ∧ (dT ns).hasDict = false ∧ (dT ns).depth ≤ 1 ∧ (dT ns).shown.length ≤ 130000 := by
  obtain ⟨a1, a2, a3, a4, a5⟩ := leaf_all (leaf_ints (small_ints hq h))
  unfold dT
  refine ⟨by rw [PyData.showable]; exact a1, by rw [PyData.hasDict]; exact a2, by rw [PyData.depth, a3]; exact Nat.le_refl _, ?_⟩
  rw [PyData.shown]
  have := PySem.tupleText_len_le (PyData.shownAll (ns.map PyData.int))
  rw [List.length_map] at a4 a5
  omega
theorem dR_show {q : Int} {L : Nat} {R : List (List Int)} {xs : List Int} (hq : q ≤ 10007) (hR : Rows q L R) (hL : L ≤ 20) (hRl : R.length ≤ 50) (xl : xs.length = L) (xf : Fe q xs) : (PyData.tuple [.tuple (R.map dT), dT xs]).showable = true ∧ (PyData.tuple [.tuple (R.map dT), dT xs]).hasDict = false ∧ (PyData.tuple [.tuple (R.map dT), dT xs]).depth ≤ 64 ∧ (PyData.tuple [.tuple (R.map dT), dT xs]).shown.length ≤ sizeLine := by
  obtain ⟨a1, a2, a3, a4, a5⟩ := all_show (B := 130000) (ds := R.map dT) fun d m => by
    obtain ⟨r, mr, rfl⟩ := List.mem_map.mp m
    obtain ⟨rl, rf⟩ := hR r mr
    exact dT_show hq rf (by omega)
  obtain ⟨b1, b2, b3, b4⟩ := dT_show hq xf (by omega)
  have y := PySem.tupleText_len_le (PyData.shownAll (R.map dT))
  have x := PySem.tupleText_len_le [tupleText (PyData.shownAll (R.map dT)), PyData.shown (dT xs)]
  rw [List.map_cons, List.map_cons, List.map_nil, List.sum_cons, List.sum_cons, List.sum_nil] at x
  rw [show ([tupleText (PyData.shownAll (R.map dT)), PyData.shown (dT xs)] : List Str).length = 2 from rfl] at x
  rw [List.length_map] at a4 a5
  refine ⟨by rw [PyData.showable, PyData.showableAll, PyData.showable, a1, PyData.showableAll, b1, PyData.showableAll]; rfl, by rw [PyData.hasDict, PyData.hasDictAll, PyData.hasDict, a2, PyData.hasDictAll, b2, PyData.hasDictAll]; rfl,
    by rw [PyData.depth, PyData.depthAll, PyData.depth, PyData.depthAll, PyData.depthAll]; omega, ?_⟩
  rw [PyData.shown, PyData.shownAll, PyData.shown, PyData.shownAll, PyData.shownAll, sizeLine_eq]
  omega
theorem tt_snoc {K : PySem.W.Frag} {H : Hp} {c t x : Addr} {as : List Addr} {R : List (List Int)} {xs : List Int} {Q : V → Hp → Prop} (sq : SqT K H c (as.map V.ref)) (pa : Paired (fun a ns => SqT K H a (ns.map V.int)) as R) (hl : as.length ≤ 1000) (st : SqT K H t [V.ref x]) (sx : SqT K H x (xs.map V.int))
    (q : ∀ v' H', Same H H' → TT K H' v' (R ++ [xs]) → Q v' H') : rCatA K (.ref c) (.ref t) H Q := by
  refine ⟨c, t, _, _, rfl, rfl, sq, st, ?_, fun e => ?_, fun _ e => (by cases e), fun _ _ p np => ?_⟩
  · rw [List.length_map, sizeLine_eq]
    show as.length + 1 ≤ _
    omega
  · have : as = [] := List.map_eq_nil_iff.mp e
    subst this
    cases pa
    exact q _ H (Same.refl H) ⟨t, [x], rfl, st, .cons sx .nil⟩
  · have s := same_new (o := .tup (as.map V.ref ++ [V.ref x])) np
    refine q _ _ s ⟨p, as ++ [x], rfl, ?_, paired_app (L2.Paired.mapP pa fun a ns z => (Kt.same s).sq z) (.cons ((Kt.same s).sq sx) .nil)⟩
    rw [List.map_append]
    exact SqT.of upd_same
/-! ### what weights may tell -/
def Tv (K : PySem.W.Frag) (H : Hp) (q : Int) (L : Nat) (R : List (List Int)) (xs : List Int) (tv : V) (d : PyData) : Prop := (tv = .non ∧ ¬ InSp q L (R.map row) (row xs) ∧ d = .none) ∨ ∃ (t : Addr) (us : List Int), tv = .ref t ∧ SqT K H t (us.map V.int) ∧ Wts q L (R.map row) (row xs) us ∧ d = dT us
theorem Tv.same {K : PySem.W.Frag} {H H' : Hp} {q : Int} {L : Nat} {R : List (List Int)} {xs : List Int} {tv : V} {d : PyData} (s : Same H H') (h : Tv K H q L R xs tv d) : Tv K H' q L R xs tv d := by
  rcases h with h | ⟨t, us, e, st, r⟩
  · exact .inl h
  · exact .inr ⟨t, us, e, (Kt.same s).sq st, r⟩
theorem Tv.uniq {K : PySem.W.Frag} {H H' : Hp} {q : Int} {L : Nat} {R : List (List Int)} {xs : List Int} {tv tv' : V} {d d' : PyData} (hp : PInv q) (h : Tv K H q L R xs tv d) (h' : Tv K H' q L R xs tv' d') : d = d' := by
  rcases h with ⟨_, n, rfl⟩ | ⟨t, us, _, _, wt, rfl⟩
  · rcases h' with ⟨_, _, rfl⟩ | ⟨t', us', _, _, wt', rfl⟩
    · rfl
    · exact absurd wt'.in_sp n
  · rcases h' with ⟨_, n, rfl⟩ | ⟨t', us', _, _, wt', rfl⟩
    · exact absurd wt.in_sp n
    · rw [wt.uniq hp wt']
theorem Tv.show {K : PySem.W.Frag} {H : Hp} {q : Int} {L : Nat} {R : List (List Int)} {xs : List Int} {tv : V} {d : PyData} (hq : q ≤ 10007) (hRl : R.length ≤ 50) (h : Tv K H q L R xs tv d) : Dp K H tv d ∧ d.showable = true ∧ d.hasDict = false ∧ d.depth ≤ 64 ∧ d.shown.length ≤ sizeLine := by
  rcases h with ⟨rfl, _, rfl⟩ | ⟨t, us, rfl, st, wt, rfl⟩
  · exact ⟨.non, by rw [PyData.showable], by rw [PyData.hasDict], by rw [PyData.depth]; decide, by rw [PyData.shown, sizeLine_eq]; decide⟩
  · obtain ⟨a, b, c, e⟩ := dT_show hq wt.bd (by have := wt.len; rw [List.length_map] at this; omega)
    exact ⟨.tup st (dp_ints us), a, b, by omega, by rw [sizeLine_eq]; omega⟩
section
variable {P : Program} {w : World} {K : PySem.W.Frag} {mg : Str → Option Value} {base : Heap}
def spRight (K : PySem.W.Frag) : Sp := fun vs H Q _ => ∃ (n : Nat) (v : V) (x : Addr) (R : List (List Int)) (xs : List Int) (L : Nat), vs = [.int (n : Int), v, .ref x] ∧ n ∈ prsN ∧ TT K H v R ∧ Rows (n : Int) L R ∧ SqT K H x (xs.map V.int) ∧ xs.length = L ∧ Fe (n : Int) xs ∧ L ≤ 20 ∧ R.length ≤ 50 ∧ ∀ H', Same H H' → Q (.bl true) H'
theorem cop_N {n : Nat} (hn : n ∈ prsN) (a : Int) (a0 : 0 < a) (a1 : a < (n : Int)) : K02.Cop (n : Int) a := by
  have z : (prsN.all fun m => decide ((m : Int) ∈ prs)) = true := by decide
  exact prs_cop (of_decide_eq_true (List.all_eq_true.mp z n hn)) a a0 a1
set_option maxHeartbeats 4000000 in
theorem ok_right (M : Bl mg) (F : At K mg "_law_right" sRight ["_law_q", "_law_lines", "_law_line"]) (FW : At K mg "weights" sWeights ["p", "rows", "row"]) {k : Nat} (h1 : Has P w K mg base k "_law_ranked" ["_law_q", "_law_lines"] (spRanked K)) (h2 : Has P w K mg base k "_law_shown" ["_law_q", "_law_lines", "_law_line", "_law_told"] (spShown K)) (h3 : Has P w K mg base k "weights" ["p", "rows", "row"] (spWts K)) :
    Has P w K mg base (k + 1) "_law_right" ["_law_q", "_law_lines", "_law_line"] (spRight K) := by
  obtain ⟨_, _, cRanked⟩ := h1
  obtain ⟨_, _, cShown⟩ := h2
  obtain ⟨_, _, cWeights⟩ := h3
  have kWeights := kb3r (a := "p") (b := "rows") (c := "row") (cWeights.text FW) (fun _ _ _ _ _ _ _ _ _ => rfl)
  refine Has.by F scRight (fun vs H Q E h => ?_) (fun f cdv A out s H vs Q E hg hr h => ?_)
  · obtain ⟨_, _, _, _, _, _, rfl, _⟩ := h
    rfl
  obtain ⟨n, v, x, R, xs, L, rfl, hn, tt, hR, sx, xl, xf, hL, hRl, qq⟩ := h
  obtain ⟨n2, n7⟩ := prsN_bd hn
  have hp : PInv (n : Int) := pinv_prs (List.mem_map.mpr ⟨n, hn, rfl⟩)
  obtain ⟨c, as, rfl, sq, pa⟩ := id tt
  have alen : as.length = R.length := Paired.length pa
  obtain ⟨w1, w2, w3, w4⟩ := dR_show (by omega) hR hL hRl xl xf
  have dp : ∀ {H' : Hp} {t0 : Addr}, Same H H' → SqT K H' t0 [V.ref c, V.ref x] → Dp K H' (.ref t0) (.tuple [.tuple (R.map dT), dT xs]) := fun {H' t0} s st => .tup st (.cons (.tup ((Kt.same s).sq sq) (dp_TT (L2.Paired.mapP pa fun a ns z => (Kt.same s).sq z))) (.cons (.tup ((Kt.same s).sq sx) (dp_ints xs)) .nil))
  refine ⟨_, (Evl.pss_cut (ps_par (i := 3) (j := 4) (by rfl) scRight.nd rfl rfl (by decide) rfl rfl (pa_cons (pe_callB (call_reprD hg hr) (by rfl) M.repr_ (by decide +kernel) (pa_cons (pe_tup (pa_cons (pv 1) (pa_cons (pv 2) pa_nil))) pa_nil)) (pa_cons (pe_cal cWeights hg hr (by rfl) (pa_cons (pv 0) (pa_cons (pv 1) (pa_cons (pv 2) pa_nil)))) pa_nil)) (by rfl))
  (pss_cons (ps_if (PW.pt (pw_or (pt_cmpR op_ne (pe_callB (call_reprD hg hr) (by rfl) M.repr_ (by decide +kernel) (pa_cons (pe_calK0 cWeights kWeights hg hr (by rfl) (pk_cons (pv 2) (pk_cons (pv 1) (pk_cons (pv 0) pk_nil)))) pa_nil)) (pe_callB (call_reprD hg hr) (by rfl) M.repr_ (by decide +kernel) (pa_cons (pv 4) pa_nil)) (nomark _)) (pw_or1 (pt_cmpR op_ne (pe_callB (call_reprD hg hr) (by rfl) M.repr_ (by decide +kernel) (pa_cons (pe_tup (pa_cons (pv 1) (pa_cons (pv 2) pa_nil))) pa_nil)) (pv 3) (nomark _)))))
    (pss_one (ps_ret pe_bl))
    pss_nil)
  (pss_cons (ps_if (pt_cmpR op_gt (pe_cal cRanked hg hr (by rfl) (pa_cons (pv 0) (pa_cons (pe_op op_catA (pv 1) (pe_tup (pa_cons (pv 2) pa_nil))) pa_nil))) (pe_cal cRanked hg hr (by rfl) (pa_cons (pv 0) (pa_cons (pv 1) pa_nil))) (nomark _))
    (pss_one (ps_ret (pe_cmpR op_isN (pv 4) pe_non (nomark _))))
    pss_nil)
  (pss_one (ps_ret (pe_cal cShown hg hr (by rfl) (pa_cons (pv 0) (pa_cons (pv 1) (pa_cons (pv 2) (pa_cons (pv 4) pa_nil)))))))))), ?_⟩
  refine ⟨fun σ H' => ∃ tv d, σ = [some (.int (n : Int)), some (.ref c), some (.ref x), some (.str (PyData.tuple [.tuple (R.map dT), dT xs]).shown), some tv] ∧ Same H H' ∧ Tv K H' (n : Int) L R xs tv d, ?_, ?_⟩
  · refine ⟨_, rfl, _, rfl, (by show 2 ≤ sizeLine; decide), fun t0 nt0 => ?_⟩
    have s0 := same_new (o := .tup [V.ref c, V.ref x]) nt0
    refine ⟨_, _, rfl, dp s0 (SqT.of upd_same), w1, w2, w3, w4, ?_⟩
    exact ⟨_, rfl, _, rfl, _, rfl, (n : Int), .ref c, x, R, xs, L, rfl, tt.kt (Kt.same s0), (Kt.same s0).sq sx, xl, xf, hR, by omega, by omega, by omega, hp, cop_N hn, fun nin H2 s2 => ⟨_, _, rfl, _, .none, rfl, s0.trans s2, .inl ⟨rfl, nin, rfl⟩⟩, fun u wt H2 t s2 st => ⟨_, _, rfl, _, dT u, rfl, s0.trans s2, .inr ⟨t, u, rfl, st, wt, rfl⟩⟩⟩
  rintro σ H1 ⟨tv, d, rfl, s1, tvd⟩
  have em : (R ++ [xs]).map row = R.map row ++ [row xs] := by rw [List.map_append]; rfl
  have rows1 : Rows (n : Int) L (R ++ [xs]) := fun r m => by
    rcases List.mem_append.mp m with m | m
    · exact hR r m
    · rw [List.mem_singleton.mp m]
      exact ⟨xl, xf⟩
  obtain ⟨z1, z2, z3, z4, z5⟩ := tvd.show (by omega) hRl
  have len1 : (R ++ [xs]).length ≤ 1000 := by rw [List.length_append]; show R.length + 1 ≤ 1000; omega
  refine ⟨_, rfl, _, rfl, _, rfl, (n : Int), .ref c, x, R, xs, L, rfl, tt.kt (Kt.same s1), (Kt.same s1).sq sx, xl, xf, hR, by omega, by omega, by omega, hp, cop_N hn, fun nin H2 s2 => ?_, fun u wt H2 t s2 st => ?_⟩
  · have tvd2 : Tv K H2 (n : Int) L R xs .non .none := .inl ⟨rfl, nin, rfl⟩
    have e := Tv.uniq hp tvd tvd2
    subst e
    obtain ⟨x1, x2, x3, x4, x5⟩ := tvd2.show (by omega) hRl
    have tvd3 := tvd.same s2
    obtain ⟨y1, _⟩ := tvd3.show (by omega) hRl
    refine ⟨_, _, rfl, x1, x2, x3, x4, x5, _, rfl, _, _, rfl, y1, z2, z3, z4, z5, rfl, _, rfl, ifNN rfl ?_⟩
    have s12 := s1.trans s2
    refine ⟨_, rfl, _, rfl, (by show 2 ≤ sizeLine; decide), fun t1 nt1 => ?_⟩
    have s3 := same_new (o := .tup [V.ref c, V.ref x]) nt1
    have s13 := s12.trans s3
    refine ⟨_, _, rfl, dp s13 (SqT.of upd_same), w1, w2, w3, w4, _, rfl, rfl, _, rfl, ifNN rfl ?_⟩
    refine ⟨_, rfl, _, rfl, _, rfl, (by show 1 ≤ sizeLine; decide), fun t2 nt2 => ?_⟩
    have s4 := same_new (o := .tup [V.ref x]) nt2
    have s14 := s13.trans s4
    refine tt_snoc ((Kt.same s14).sq sq) (L2.Paired.mapP pa fun a ns z => (Kt.same s14).sq z) (by omega) (SqT.of upd_same) ((Kt.same s14).sq sx) fun v5 H5 s5 tt5 => ?_
    refine ⟨n, v5, _, L, rfl, hn, tt5, rows1, by omega, len1, fun H6 s6 => ?_⟩
    have s16 := (s14.trans s5).trans s6
    refine ⟨_, rfl, _, rfl, n, _, R, L, rfl, hn, tt.kt (Kt.same s16), hR, by omega, by omega, fun H7 s7 => ?_⟩
    have s17 := s16.trans s7
    have tv7 := tvd.same ((((s2.trans s3).trans s4).trans s5).trans (s6.trans s7))
    refine ⟨_, _, rfl, rfl, _, rfl, ?_⟩
    rw [em, dim_back]
    rw [if_neg nin, decide_eq_true (by omega)]
    refine iteT ?_
    rcases tv7 with ⟨rfl, _, _⟩ | ⟨t, us, _, _, wt, _⟩
    · exact ⟨_, rfl, rfl, qq H7 s17⟩
    · exact absurd wt.in_sp nin
  · have tvd2 : Tv K H2 (n : Int) L R xs (.ref t) (dT u) := .inr ⟨t, u, rfl, st, wt, rfl⟩
    have e := Tv.uniq hp tvd tvd2
    subst e
    obtain ⟨x1, x2, x3, x4, x5⟩ := tvd2.show (by omega) hRl
    have tvd3 := tvd.same s2
    obtain ⟨y1, _⟩ := tvd3.show (by omega) hRl
    refine ⟨_, _, rfl, x1, x2, x3, x4, x5, _, rfl, _, _, rfl, y1, z2, z3, z4, z5, rfl, _, rfl, ifNN rfl ?_⟩
    have s12 := s1.trans s2
    refine ⟨_, rfl, _, rfl, (by show 2 ≤ sizeLine; decide), fun t1 nt1 => ?_⟩
    have s3 := same_new (o := .tup [V.ref c, V.ref x]) nt1
    have s13 := s12.trans s3
    refine ⟨_, _, rfl, dp s13 (SqT.of upd_same), w1, w2, w3, w4, _, rfl, rfl, _, rfl, ifNN rfl ?_⟩
    refine ⟨_, rfl, _, rfl, _, rfl, (by show 1 ≤ sizeLine; decide), fun t2 nt2 => ?_⟩
    have s4 := same_new (o := .tup [V.ref x]) nt2
    have s14 := s13.trans s4
    refine tt_snoc ((Kt.same s14).sq sq) (L2.Paired.mapP pa fun a ns z => (Kt.same s14).sq z) (by omega) (SqT.of upd_same) ((Kt.same s14).sq sx) fun v5 H5 s5 tt5 => ?_
    refine ⟨n, v5, _, L, rfl, hn, tt5, rows1, by omega, len1, fun H6 s6 => ?_⟩
    have s16 := (s14.trans s5).trans s6
    refine ⟨_, rfl, _, rfl, n, _, R, L, rfl, hn, tt.kt (Kt.same s16), hR, by omega, by omega, fun H7 s7 => ?_⟩
    have s17 := s16.trans s7
    have tv7 := tvd.same ((((s2.trans s3).trans s4).trans s5).trans (s6.trans s7))
    refine ⟨_, _, rfl, rfl, _, rfl, ?_⟩
    rw [em, dim_back]
    rw [if_pos wt.in_sp, Nat.add_zero, decide_eq_false (by omega)]
    refine iteF ?_
    rcases tv7 with ⟨_, nin, _⟩ | ⟨t9, us, rfl, st9, wt9, _⟩
    · exact absurd wt.in_sp nin
    · exact ⟨_, rfl, _, rfl, _, rfl, _, rfl, n, _, x, t9, R, xs, us, L, rfl, hn, tt.kt (Kt.same s17), hR, (Kt.same s17).sq sx, xl, xf, st9, wt9, by omega, by omega, fun H8 s8 => qq H8 (s17.trans s8)⟩
end
end K04
set_option Elab.async false
set_option pp.maxSteps 500
set_option pp.deepTerms.threshold 8
set_option pp.deepTerms false
set_option linter.all false
set_option maxRecDepth 100000
namespace K04
open PySem PySem.Spec PyProof.Rows L2 Lj
theorem cut_from (xs : List V) (i : Nat) : cutV xs (some (i : Int)) none = xs.drop i := by
  unfold cutV
  rw [HT.sIx_none, HT.sIx_nat]
  by_cases h : i ≤ xs.length
  · rw [Nat.min_eq_left h]
    exact List.take_of_length_le (by rw [List.length_drop]; exact Nat.le_refl _)
  · rw [Nat.min_eq_right (by omega), List.drop_length, List.drop_eq_nil_of_le (by omega)]
    exact List.take_nil
theorem int_cut {K : PySem.W.Frag} {H : Hp} {a : Addr} {ns ms : List Int} {lo hi : Option Int} {Q : V → Hp → Prop} (sq : SqT K H a (ns.map V.int)) (e : cutV (ns.map V.int) lo hi = ms.map V.int) (q : ∀ a' H', Same H H' → SqT K H' a' (ms.map V.int) → Q (.ref a') H') : rSlA K (.ref a) lo hi H Q := by
  refine ⟨a, _, rfl, sq, fun h => ?_, fun _ p np => ?_⟩
  · have cw := cut_whole _ _ _ h
    rw [e] at cw
    exact q _ H (Same.refl H) (by rw [cw]; exact sq)
  · rw [e]
    exact q _ _ (same_new np) (SqT.of upd_same)
theorem int_cat {K : PySem.W.Frag} {H : Hp} {a b : Addr} {ns ms : List Int} {Q : V → Hp → Prop} (sa : SqT K H a (ns.map V.int)) (sb : SqT K H b (ms.map V.int)) (l : ns.length + ms.length ≤ 5000) (q : ∀ a' H', Same H H' → SqT K H' a' ((ns ++ ms).map V.int) → Q (.ref a') H') : rCatA K (.ref a) (.ref b) H Q := by
  refine ⟨a, b, _, _, rfl, rfl, sa, sb, ?_, fun e => ?_, fun _ e => ?_, fun _ _ p np => ?_⟩
  · rw [List.length_map, List.length_map, sizeLine_eq]
    omega
  · have : ns = [] := List.map_eq_nil_iff.mp e
    subst this
    exact q _ H (Same.refl H) sb
  · have : ms = [] := List.map_eq_nil_iff.mp e
    subst this
    rw [List.append_nil] at q
    exact q _ H (Same.refl H) sa
  · refine q _ _ (same_new np) ?_
    rw [List.map_append]
    exact SqT.of upd_same
theorem rep_row {K : PySem.W.Frag} {H : Hp} {t : Addr} {L : Nat} {k : Int} {Q : V → Hp → Prop} (ek : k = (L : Int)) (st : SqT K H t [V.int 0]) (L1 : 1 ≤ L) (L2 : L ≤ 1000) (q : ∀ x H', Same H H' → SqT K H' x ((List.replicate L (0 : Int)).map V.int) → Q (.ref x) H') : rRep1 K (.ref t) (.int k) H Q := by
  subst ek
  refine ⟨t, _, _, rfl, rfl, st, List.cons_ne_nil _ _, by omega, by omega, (by show 1 ≤ 1000; decide), fun e => ?_, fun _ p np => ?_⟩
  · have : L = 1 := by omega
    subst this
    exact q _ H (Same.refl H) st
  · refine q _ _ (same_new np) ?_
    rw [show ((L : Nat) : Int).toNat = L by omega, flat_zero]
    exact SqT.of upd_same
/-- a row at an address -/
def RowAt (K : PySem.W.Frag) (H : Hp) (q : Int) (L : Nat) (v : V) : Prop := ∃ (x : Addr) (ns : List Int), v = .ref x ∧ SqT K H x (ns.map V.int) ∧ ns.length = L ∧ Fe q ns
theorem RowAt.kt {K : PySem.W.Frag} {H H' : Hp} {q : Int} {L : Nat} {v : V} (k : Kt H H') (h : RowAt K H q L v) : RowAt K H' q L v := by
  obtain ⟨x, ns, e, s, r⟩ := h
  exact ⟨x, ns, e, k.sq s, r⟩
theorem no_one {n : Nat} (h : 2 ≤ n) : ¬ InSp (n : Int) 2 [] (row [0, 1 % (n : Int)]) := fun z => by
  have y := InSp.nil_iff.mp z 1 (by decide)
  have e : row [0, 1 % (n : Int)] 1 = 1 := by
    show 1 % (n : Int) = 1
    exact Int.emod_eq_of_lt (by decide) (by omega)
  rw [e] at y
  have := Int.le_of_dvd (by decide) y
  omega
section
variable {P : Program} {w : World} {K : PySem.W.Frag} {mg : Str → Option Value} {base : Heap}
def spLaw (K : PySem.W.Frag) : Sp := fun vs H Q _ => ∃ (a : Addr) (ns : List Int), vs = [.ref a] ∧ SqL K H a (ns.map V.int) ∧ ns.length ≤ 63 ∧ ∀ H', Q (.bl true) H'
set_option maxHeartbeats 8000000 in
theorem ok_law (M : Bl mg) (F : At K mg "law" sLaw ["_law_script"]) {k : Nat}
    (h1 : Has P w K mg base k "_law_urn" ["_law_script", "_law_k"] (spUrn K)) (h2 : Has P w K mg base k "_law_take" ["_law_urn_here", "_law_below"] spTake) (h3 : Has P w K mg base k "_law_prime" ["_law_urn_here"] spPrimeU) (h4 : Has P w K mg base k "_law_of" ["_law_urn_here", "_law_items"] (spOf K))
    (h5 : Has P w K mg base k "_law_rows" ["_law_urn_here", "_law_q", "_law_count", "_law_length"] (spRows K)) (h6 : Has P w K mg base k "_law_mixed" ["_law_urn_here", "_law_q", "_law_lines", "_law_length"] (spMixed K)) (h7 : Has P w K mg base k "_law_tuple" ["_law_urn_here", "_law_q", "_law_count"] (spTup K))
    (h8 : Has P w K mg base k "_law_right" ["_law_q", "_law_lines", "_law_line"] (spRight K)) (h9 : Has P w K mg base k "weights" ["p", "rows", "row"] (spWts K)) : Has P w K mg base (k + 1) "law" ["_law_script"] (spLaw K) := by
  obtain ⟨_, _, cUrn⟩ := h1
  obtain ⟨_, _, cTake⟩ := h2
  obtain ⟨_, _, cPrime⟩ := h3
  obtain ⟨_, _, cOf⟩ := h4
  obtain ⟨_, _, cRows⟩ := h5
  obtain ⟨_, _, cMixed⟩ := h6
  obtain ⟨_, _, cTuple⟩ := h7
  obtain ⟨_, _, cRight⟩ := h8
  obtain ⟨_, _, cWeights⟩ := h9
  refine Has.by F scLaw (fun vs H Q E h => ?_) (fun f cdv A out s H vs Q E hg hr h => ?_)
  · obtain ⟨a, ns, rfl, _⟩ := h
    rfl
  obtain ⟨a, ns, rfl, hS, hl, q⟩ := h
  refine ⟨_, (pss_cons (ps_for PassesOwn.never rfl (pi_range1 (by rfl) M.range_ (pa_cons (pe_callB (call_max2 rfl) (by rfl) M.max_ (by decide +kernel) (pa_cons pe_int (pa_cons (pe_callB (call_min2 rfl) (by rfl) M.min_ (by decide +kernel) (pa_cons pe_int (pa_cons (pe_callB call_len_seq (by rfl) M.len_ (by decide +kernel) (pa_cons (pv 0) pa_nil)) pa_nil))) pa_nil))) pa_nil)) (pg_name (i := 1) scLaw.nd rfl (.inl rfl))
    (pss_cons (ps_set (i := 2) scLaw.nd rfl (.inl rfl) (pe_cal cUrn hg hr (by rfl) (pa_cons (pv 0) (pa_cons (pv 1) pa_nil))))
  (pss_cons (ps_set (i := 3) scLaw.nd rfl (.inl rfl) (pe_cal cPrime hg hr (by rfl) (pa_cons (pv 2) pa_nil)))
  (pss_cons (ps_for PassesOwn.never rfl (pi_range1 (by rfl) M.range_ (pa_cons pe_int pa_nil)) (pg_name (i := 4) scLaw.nd rfl (.inl rfl))
    (pss_cons (ps_set (i := 5) scLaw.nd rfl (.inl rfl) (pe_op op_add pe_int (pe_cal cTake hg hr (by rfl) (pa_cons (pv 2) (pa_cons pe_int pa_nil)))))
  (pss_cons (ps_set (i := 6) scLaw.nd rfl (.inl rfl) (pe_cal cOf hg hr (by rfl) (pa_cons (pv 2) (pa_cons (pe_lst (pa_cons (pe_cal cTake hg hr (by rfl) (pa_cons (pv 2) (pa_cons pe_int pa_nil))) (pa_cons (pe_cal cTake hg hr (by rfl) (pa_cons (pv 2) (pa_cons pe_int pa_nil))) (pa_cons (pe_cal cTake hg hr (by rfl) (pa_cons (pv 2) (pa_cons pe_int pa_nil))) pa_nil)))) pa_nil))))
  (pss_cons (ps_set (i := 7) scLaw.nd rfl (.inl rfl) (pe_cal cRows hg hr (by rfl) (pa_cons (pv 2) (pa_cons (pv 3) (pa_cons (pv 6) (pa_cons (pv 5) pa_nil))))))
  (Evl.pss_cut (ps_par (i := 8) (j := 9) (by rfl) scLaw.nd rfl rfl (by decide) rfl rfl (pa_cons (pe_cal cMixed hg hr (by rfl) (pa_cons (pv 2) (pa_cons (pv 3) (pa_cons (pv 7) (pa_cons (pv 5) pa_nil))))) (pa_cons (pe_cal cTake hg hr (by rfl) (pa_cons (pv 2) (pa_cons (pv 5) pa_nil))) pa_nil)) (by rfl))
  (Evl.pss_cut (ps_set (i := 10) scLaw.nd rfl (.inl rfl) (pe_op op_catA (pe_op op_catA (pe_slice sl_tupA (pv 8) po_none (po_some (pv 9))) (pe_tup (pa_cons (pe_op op_mod (pe_op op_add (pe_ix ix_tup (pv 8) (pv 9) (fun _ _ => rfl)) pe_int) (pv 3)) pa_nil))) (pe_slice sl_tupA (pv 8) (po_some (pe_op op_add (pv 9) pe_int)) po_none)))
  (pss_one (ps_for PassesOwn.never rfl (pi_tup (pe_tup (pa_cons (pv 8) (pa_cons (pv 10) (pa_cons (pe_cal cTuple hg hr (by rfl) (pa_cons (pv 2) (pa_cons (pv 3) (pa_cons (pv 5) pa_nil)))) (pa_cons (pe_op op_rep1 (pe_tup (pa_cons pe_int pa_nil)) (pv 5)) pa_nil)))))) (pg_name (i := 11) scLaw.nd rfl (.inl rfl))
    (pss_one (ps_if (pt_not (pt_val (pe_cal cRight hg hr (by rfl) (pa_cons (pv 3) (pa_cons (pv 7) (pa_cons (pv 11) pa_nil))))))
    (pss_one (ps_ret pe_bl))
    pss_nil))))))))))
  (pss_one (ps_if (PW.pt (pw_or (pt_cmpR (op_neD hr.units) (pe_cal cWeights hg hr (by rfl) (pa_cons (pv 3) (pa_cons (pe_tup pa_nil) (pa_cons (pe_tup (pa_cons pe_int (pa_cons pe_int pa_nil))) pa_nil)))) (pe_tup pa_nil) (nomark _)) (pw_or1 (pt_cmpR op_notN (pe_cal cWeights hg hr (by rfl) (pa_cons (pv 3) (pa_cons (pe_tup pa_nil) (pa_cons (pe_tup (pa_cons pe_int (pa_cons (pe_op op_mod pe_int (pv 3)) pa_nil))) pa_nil)))) pe_non (nomark _)))))
    (pss_one (ps_ret pe_bl))
    pss_nil))))))
  (pss_one (ps_ret pe_bl))), ?_⟩
  have hlen : (ns.map V.int).length = ns.length := List.length_map _
  refine ⟨_, rfl, a, _, rfl, .inl hS, 3, _, rfl, 1, _, rfl, ?_⟩
  rw [hlen]
  obtain ⟨m, hm, hm3⟩ : ∃ m : Nat, (if (if (ns.length : Int) < 3 then (ns.length : Int) else 3) > 1 then (if (ns.length : Int) < 3 then (ns.length : Int) else 3) else 1) = (m : Int) ∧ m ≤ 3 := by
    refine ⟨(if (if (ns.length : Int) < 3 then (ns.length : Int) else 3) > 1 then (if (ns.length : Int) < 3 then (ns.length : Int) else 3) else 1).toNat, ?_, ?_⟩
    · split <;> split <;> omega
    · split <;> split <;> omega
  refine ⟨_, rfl, ?_, ?_, ?_⟩
  · rw [hm]; omega
  · rw [hm]; omega
  rw [hm]
  refine for_range (lo := 0) (n := m) (fun i σ H' => ∃ y1 y2 y3 y4 y5 y6 y7 y8 y9 y10 y11, σ = [some (.ref a), y1, y2, y3, y4, y5, y6, y7, y8, y9, y10, y11] ∧ Same H H') ⟨_, _, _, _, _, _, _, _, _, _, _, rfl, Same.refl _⟩ ?_ ?_
  · rintro i σ H1 hi ⟨y1, y2, y3, y4, y5, y6, y7, y8, y9, y10, y11, rfl, sm⟩
    refine ⟨_, rfl, _, rfl, a, ns, _, rfl, sm.seq hS, by omega, by omega, fun H2 u s2 nu hU => ?_⟩
    have nHu : H u = none := sm.free nu
    have sA : Same H H2 := sm.trans s2
    refine ⟨_, rfl, u, rfl, hU, fun p H3 hp u3 b3 => ?_⟩
    obtain ⟨n, rfl, hn⟩ := prs_N hp
    obtain ⟨n2, n7⟩ := prsN_bd hn
    have pin : PInv (n : Int) := pinv_prs (List.mem_map.mpr ⟨n, hn, rfl⟩)
    have sB : Same H H3 := same_but sA nHu b3
    refine ⟨5, rfl, by decide, by decide, ?_⟩
    refine for_range (lo := 0) (n := 5) (fun j σ H' => ∃ y4 y5 y6 y7 y8 y9 y10 y11, σ = [some (.ref a), some (.int (0 + (i : Nat))), some (.ref u), some (.int (n : Int)), y4, y5, y6, y7, y8, y9, y10, y11] ∧ Same H H' ∧ Urn H' u) ⟨_, _, _, _, _, _, _, _, rfl, sB, u3⟩ ?_ ?_
    · rintro j σ H4 hj ⟨y4, y5, y6, y7, y8, y9, y10, y11, rfl, s4, u4⟩
      refine ⟨_, rfl, u, 12, rfl, u4, by decide, wide_big (by decide) (by decide), fun l0 H5 l00 l01 u5 b5 => ⟨1, l0, rfl, rfl, ?_⟩⟩
      obtain ⟨L, eL, L1, L12⟩ : ∃ L : Nat, 1 + l0 = (L : Int) ∧ 1 ≤ L ∧ L ≤ 12 := ⟨(1 + l0).toNat, by omega, by omega, by omega⟩
      refine ⟨_, rfl, _, rfl, u, 10, rfl, u5, by decide, wide_big (by decide) (by decide), fun c1 H6 c10 c11 u6 b6 => ?_⟩
      refine ⟨_, rfl, u, 10, rfl, u6, by decide, wide_big (by decide) (by decide), fun c2 H7 c20 c21 u7 b7 => ?_⟩
      refine ⟨_, rfl, u, 41, rfl, u7, by decide, wide_big (by decide) (by decide), fun c3 H8 c30 c31 u8 b8 => ?_⟩
      refine ⟨(by show 3 ≤ sizeLine; decide), fun l3 nl3 => ?_⟩
      have sl3 := same_new (o := .lst (([c1, c2, c3] : List Int).map V.int)) nl3
      refine ⟨u, l3, ([c1, c2, c3] : List Int).map V.int, rfl, u8.same sl3, u8.ne nl3, SqL.of upd_same, List.cons_ne_nil _ _, (by show 3 ≤ 1000; decide), fun xc H9 mxc u9 b9 => ?_⟩
      obtain ⟨cc, mcc, rfl⟩ := List.mem_map.mp mxc
      obtain ⟨C, eC, C40⟩ : ∃ C : Nat, cc = (C : Int) ∧ C ≤ 40 := by
        simp only [List.mem_cons, List.not_mem_nil, or_false] at mcc
        exact ⟨cc.toNat, by omega, by omega⟩
      subst eC
      have s9 : Same H H9 := same_but (same_but (same_but (same_but (same_but s4 nHu b5) nHu b6) nHu b7) nHu b8 |>.trans sl3) nHu b9
      refine ⟨_, rfl, _, rfl, _, rfl, _, rfl, u, (n : Int), C, L, ?_, u9, by omega, by omega, by omega, by omega, fun R v H10 Rl hR tt u10 b10 => ?_⟩
      · show [V.ref u, V.int (n : Int), V.int (C : Int), V.int (1 + l0)] = _
        rw [eL]
      obtain ⟨c, as, rfl, sq, pa⟩ := id tt
      have s10 : Same H H10 := same_but s9 nHu b10
      -- a combination, and a place
      refine ⟨fun σ H' => ∃ (x : Addr) (ms : List Int) (at_ : Nat) (y10 y11 : Option V), σ = [some (.ref a), some (.int (0 + (i : Nat))), some (.ref u), some (.int (n : Int)), some (.int (0 + (j : Nat))), some (.int (1 + l0)), some (.int (C : Int)), some (.ref c), some (.ref x), some (.int (at_ : Int)), y10, y11] ∧ SqT K H' x (ms.map V.int) ∧ ms.length = L ∧ Fe (n : Int) ms ∧ at_ < L ∧ Urn H' u ∧ But u H10 H', ?_, ?_⟩
      · refine ⟨_, rfl, _, rfl, _, rfl, _, rfl, u, (n : Int), _, L, R, by rw [← eL], u10, by omega, by omega, by omega, ⟨c, as, rfl, .inr sq, pa⟩, hR, fun ms H11 x ml mf sx u11 b11 => ?_⟩
        refine ⟨_, rfl, _, rfl, u, 1 + l0, rfl, u11, by omega, wide_big (by omega) (by omega), fun z H12 z0 z1 u12 b12 => ?_⟩
        obtain ⟨at_, rfl⟩ : ∃ at_ : Nat, z = (at_ : Int) := ⟨z.toNat, by omega⟩
        exact ⟨_, _, rfl, x, ms, at_, _, _, rfl, (u11.kt b12).sq sx, ml, mf, by omega, u12, b11.trans b12⟩
      rintro σ H11 ⟨x, ms, at_, z10, z11, rfl, sx, ml, mf, hat, u11, b11⟩
      -- one entry changed
      refine ⟨fun σ H' => ∃ (z : Addr) (zs : List Int) (y11 : Option V), σ = [some (.ref a), some (.int (0 + (i : Nat))), some (.ref u), some (.int (n : Int)), some (.int (0 + (j : Nat))), some (.int (1 + l0)), some (.int (C : Int)), some (.ref c), some (.ref x), some (.int (at_ : Int)), some (.ref z), y11] ∧ SqT K H' z (zs.map V.int) ∧ zs.length = L ∧ Fe (n : Int) zs ∧ Same H11 H', ?_, ?_⟩
      · refine ⟨_, rfl, _, rfl, (at_ : Int), rfl, int_cut (ms := ms.take at_) sx (by rw [cut_to, List.map_take]) fun p1 H12 s12 sp1 => ?_⟩
        have sx12 := (Kt.same s12).sq sx
        refine ⟨_, rfl, _, rfl, x, _, _, .int (row ms at_), rfl, rfl, sx12, atI_row (by omega), _, _, rfl, rfl, _, rfl, _, (n : Int), rfl, rfl, by omega, (by show 1 ≤ sizeLine; decide), fun p2 np2 => ?_⟩
        have s13 := same_new (o := .tup (([(row ms at_ + 1) % (n : Int)] : List Int).map V.int)) np2
        refine int_cat (ns := ms.take at_) (ms := [(row ms at_ + 1) % (n : Int)]) ((Kt.same s13).sq sp1) (SqT.of upd_same) (by rw [List.length_take]; show _ + 1 ≤ 5000; omega) fun p3 H14 s14 sp3 => ?_
        have s1114 := (s12.trans s13).trans s14
        refine ⟨_, rfl, _, rfl, _, _, rfl, rfl, ((at_ + 1 : Nat) : Int), rfl, ?_⟩
        dsimp only [tNoPart]
        refine int_cut (ms := ms.drop (at_ + 1)) ((Kt.same s1114).sq sx) (by rw [cut_from, List.map_drop]) fun p4 H15 s15 sp4 => ?_
        refine int_cat (ns := ms.take at_ ++ [(row ms at_ + 1) % (n : Int)]) (ms := ms.drop (at_ + 1)) ((Kt.same s15).sq sp3) sp4 (by rw [List.length_append, List.length_take, List.length_drop]; show _ + 1 + _ ≤ 5000; omega) fun p5 H16 s16 sp5 => ?_
        refine ⟨p5, _, _, rfl, sp5, ?_, fun e me => ?_, (s1114.trans s15).trans s16⟩
        · rw [List.length_append, List.length_append, List.length_take, List.length_drop]
          show min at_ ms.length + 1 + _ = L
          omega
        · rcases List.mem_append.mp me with me | me
          · rcases List.mem_append.mp me with me | me
            · exact mf e (List.mem_of_mem_take me)
            · rw [List.mem_singleton.mp me]
              exact ⟨Int.emod_nonneg _ (by omega), Int.emod_lt_of_pos _ (by omega)⟩
          · exact mf e (List.mem_of_mem_drop me)
      rintro σ H12 ⟨z, zs, y11, rfl, sz, zl, zf, s12⟩
      -- the rows that are asked
      refine ⟨_, rfl, _, rfl, _, rfl, _, rfl, _, rfl, u, (n : Int), L, by rw [← eL], u11.same s12, by omega, by omega, by omega, fun ts H13 t tl tf st u13 b13 => ?_⟩
      refine ⟨(by show 1 ≤ sizeLine; decide), fun t0 nt0 => ⟨_, rfl, rep_row eL (SqT.of upd_same) L1 (by omega) fun t1 H14 s14 st1 => ⟨(by show 4 ≤ sizeLine; decide), fun t4 nt4 => ?_⟩⟩⟩
      have s0 := same_new (o := .tup [V.int 0]) nt0
      have s4' := same_new (o := .tup [V.ref x, V.ref z, V.ref t, V.ref t1]) nt4
      have s1315 := (s0.trans s14).trans s4'
      have k1215 : Kt H12 _ := ((u11.same s12).kt b13).trans (Kt.same s1315)
      have k1115 : Kt H11 _ := (Kt.same s12).trans k1215
      have k1015 : Kt H10 _ := (u10.kt b11).trans k1115
      have b1015 : But u H10 _ := (b11.trans (But.same s12)).trans (b13.trans (But.same s1315))
      have sF : Same H _ := same_but s10 nHu b1015
      have u15 := u13.same s1315
      have tt15 := tt.kt k1015
      have rows4 : ∀ y ∈ [V.ref x, V.ref z, V.ref t, V.ref t1], RowAt K _ (n : Int) L y := fun y my => by
        simp only [List.mem_cons, List.not_mem_nil, or_false] at my
        rcases my with rfl | rfl | rfl | rfl
        · exact ⟨x, ms, rfl, k1115.sq sx, ml, mf⟩
        · exact ⟨z, zs, rfl, k1215.sq sz, zl, zf⟩
        · exact ⟨t, ts, rfl, (Kt.same s1315).sq st, tl, tf⟩
        · exact ⟨t1, _, rfl, (Kt.same s4').sq st1, List.length_replicate, fe_zero (by omega) L⟩
      refine ⟨t4, rfl, ⟨_, SqT.of upd_same⟩, ?_⟩
      refine for_tup (xs := [V.ref x, V.ref z, V.ref t, V.ref t1]) (fun e σ H' => ∃ y11, σ = [some (.ref a), some (.int (0 + (i : Nat))), some (.ref u), some (.int (n : Int)), some (.int (0 + (j : Nat))), some (.int (1 + l0)), some (.int (C : Int)), some (.ref c), some (.ref x), some (.int (at_ : Int)), some (.ref z), y11] ∧ Same (upd H14 t4 (.tup [V.ref x, V.ref z, V.ref t, V.ref t1])) H') ⟨_, rfl, Same.refl _⟩ (fun e σ H' _ ⟨_, _, s⟩ => (Kt.same s).sq (SqT.of upd_same)) ?_ ?_
      · rintro e y σ H16 hy ⟨w11, rfl, s16⟩
        obtain ⟨x9, ns9, rfl, sx9, nl9, nf9⟩ := (rows4 y (List.mem_of_getElem? hy)).kt (Kt.same s16)
        refine ⟨_, rfl, _, rfl, _, rfl, n, _, x9, R, ns9, L, rfl, hn, tt15.kt (Kt.same s16), hR, sx9, nl9, nf9, by omega, by omega, fun H17 s17 => ?_⟩
        exact ⟨_, rfl, iteF ⟨_, rfl, s16.trans s17⟩⟩
      · rintro σ H16 ⟨w11, rfl, s16⟩
        exact ⟨_, _, _, _, _, _, _, _, rfl, sF.trans s16, u15.same s16⟩
    · rintro σ H4 ⟨y4, y5, y6, y7, y8, y9, y10, y11, rfl, s4, u4⟩
      -- no rows
      refine ⟨_, rfl, (by show 0 ≤ sizeLine; decide), fun t1 nt1 => ⟨(by show 2 ≤ sizeLine; decide), fun t2 nt2 => ?_⟩⟩
      have s5 := same_new (o := .tup []) nt1
      have s6 := same_new (o := .tup (([0, 0] : List Int).map V.int)) nt2
      have s46 := (s4.trans s5).trans s6
      have z2 : Fe (n : Int) [0, 0] := fun e me => by
        simp only [List.mem_cons, List.not_mem_nil, or_false] at me
        omega
      have o2 : Fe (n : Int) [0, 1 % (n : Int)] := fun e me => by
        simp only [List.mem_cons, List.not_mem_nil, or_false] at me
        have := Int.emod_eq_of_lt (a := 1) (b := (n : Int)) (by decide) (by omega)
        omega
      refine ⟨(n : Int), _, t2, [], [0, 0], 2, rfl, ⟨t1, [], rfl, (Kt.same s6).sq (SqT.of upd_same), .nil⟩, SqT.of upd_same, rfl, z2, (fun r m => absurd m List.not_mem_nil), by decide, by decide, by omega, pin, cop_N hn, fun nin => absurd (InSp.nil_iff.mpr fun i hi => ?_) nin, fun us wt H7 t s7 st => ?_⟩
      · match i, hi with
        | 0, _ => exact Int.dvd_zero _
        | 1, _ => exact Int.dvd_zero _
      have ue : us = [] := List.length_eq_zero_iff.mp wt.len
      subst ue
      have s47 := s46.trans s7
      refine ⟨(by show 0 ≤ sizeLine; decide), fun t8 nt8 => ?_⟩
      have s8 := same_new (o := .tup []) nt8
      refine ⟨.tuple [], .tuple [], .tup ((Kt.same s8).sq st) .nil, .tup (SqT.of upd_same) .nil, by decide, by decide, _, rfl, ?_⟩
      refine iteF ?_
      refine ⟨_, rfl, (by show 0 ≤ sizeLine; decide), fun t9 nt9 => ⟨_, rfl, 1, (n : Int), rfl, rfl, by omega, (by show 2 ≤ sizeLine; decide), fun t10 nt10 => ?_⟩⟩
      have s9 := same_new (o := .tup []) nt9
      have s10 := same_new (o := .tup (([0, 1 % (n : Int)] : List Int).map V.int)) nt10
      have s410 := ((s47.trans s8).trans s9).trans s10
      refine ⟨(n : Int), _, t10, [], [0, 1 % (n : Int)], 2, rfl, ⟨t9, [], rfl, (Kt.same s10).sq (SqT.of upd_same), .nil⟩, SqT.of upd_same, rfl, o2, (fun r m => absurd m List.not_mem_nil), by decide, by decide, by omega, pin, cop_N hn, fun _ H11 s11 => ?_, fun us wt => absurd wt.in_sp (no_one n2)⟩
      refine ⟨rfl, _, rfl, ?_⟩
      refine iteF ?_
      exact ⟨_, _, _, _, _, _, _, _, _, _, _, rfl, s410.trans s11⟩
  · rintro σ H1 ⟨y1, y2, y3, y4, y5, y6, y7, y8, y9, y10, y11, rfl, sm⟩
    exact q H1
end
theorem all_mk {l : PySem.W.OpenLaw} {w : World} {K : PySem.W.Frag} {h : Heap} {mg : Str → Option Value} {fa f0 f1 f2 f3 f4 f5 f6 f7 f8 f9 f10 f11 f12 f13 f14 f15 f16 f17 : Addr} (X : K.In h) (G : h.Ns mainGlobals mg) (hfa : mg "law" = some (.ref fa))
    {od0 an0 od1 an1 od2 an2 od3 an3 od4 an4 od5 an5 od6 an6 od7 an7 od8 an8 od9 an9 od10 an10 od11 an11 od12 an12 od13 an13 od14 an14 od15 an15 od16 an16 od17 an17 : Option Addr} {sl0 sl1 sl2 sl3 sl4 sl5 sl6 sl7 sl8 sl9 sl10 sl11 sl12 sl13 sl14 sl15 sl16 sl17 : Array (Option Value)} {oc0 kV0 dc0 pm0 cd0 ct0 oc1 kV1 dc1 pm1 cd1 ct1 oc2 kV2 dc2 pm2 cd2 ct2 oc3 kV3 dc3 pm3 cd3 ct3 oc4 kV4 dc4 pm4 cd4 ct4 oc5 kV5 dc5 pm5 cd5 ct5 oc6 kV6 dc6 pm6 cd6 ct6 oc7 kV7 dc7 pm7 cd7 ct7 oc8 kV8 dc8 pm8 cd8 ct8 oc9 kV9 dc9 pm9 cd9 ct9 oc10 kV10 dc10 pm10 cd10 ct10 oc11 kV11 dc11 pm11 cd11 ct11 oc12 kV12 dc12 pm12 cd12 ct12 oc13 kV13 dc13 pm13 cd13 ct13 oc14 kV14 dc14 pm14 cd14 ct14 oc15 kV15 dc15 pm15 cd15 ct15 oc16 kV16 dc16 pm16 cd16 ct16 oc17 kV17 dc17 pm17 cd17 ct17 : Value}
    (a0 : PySem.W.nsIn K mainGlobals "inverse" = some (some (.ref f0))) (l0 : K.lookup f0 = some ⟨oc0, od0, .func (PySem.W.fnOf "inverse" "inverse" (defArgs sInverse) (defBody sInverse) (defScope sInverse) .none kV0 dc0 pm0 an0 cd0 ct0), sl0⟩) (c0 : PySem.W.codeIn K cd0 "inverse" = true) (k0 : PySem.W.keepIn K (.ref f0) = true)
    (a1 : PySem.W.nsIn K mainGlobals "weights" = some (some (.ref f1))) (l1 : K.lookup f1 = some ⟨oc1, od1, .func (PySem.W.fnOf "weights" "weights" (defArgs sWeights) (defBody sWeights) (defScope sWeights) .none kV1 dc1 pm1 an1 cd1 ct1), sl1⟩) (c1 : PySem.W.codeIn K cd1 "weights" = true) (k1 : PySem.W.keepIn K (.ref f1) = true)
    (a2 : PySem.W.nsIn K mainGlobals "equations" = some (some (.ref f2))) (l2 : K.lookup f2 = some ⟨oc2, od2, .func (PySem.W.fnOf "equations" "equations" (defArgs sEquations) (defBody sEquations) (defScope sEquations) .none kV2 dc2 pm2 an2 cd2 ct2), sl2⟩) (c2 : PySem.W.codeIn K cd2 "equations" = true) (k2 : PySem.W.keepIn K (.ref f2) = true)
    (a3 : PySem.W.nsIn K mainGlobals "echelon" = some (some (.ref f3))) (l3 : K.lookup f3 = some ⟨oc3, od3, .func (PySem.W.fnOf "echelon" "echelon" (defArgs sEchelon) (defBody sEchelon) (defScope sEchelon) .none kV3 dc3 pm3 an3 cd3 ct3), sl3⟩) (c3 : PySem.W.codeIn K cd3 "echelon" = true) (k3 : PySem.W.keepIn K (.ref f3) = true)
    (a4 : PySem.W.nsIn K mainGlobals "times" = some (some (.ref f4))) (l4 : K.lookup f4 = some ⟨oc4, od4, .func (PySem.W.fnOf "times" "times" (defArgs sTimes) (defBody sTimes) (defScope sTimes) .none kV4 dc4 pm4 an4 cd4 ct4), sl4⟩) (c4 : PySem.W.codeIn K cd4 "times" = true) (k4 : PySem.W.keepIn K (.ref f4) = true)
    (a5 : PySem.W.nsIn K mainGlobals "less" = some (some (.ref f5))) (l5 : K.lookup f5 = some ⟨oc5, od5, .func (PySem.W.fnOf "less" "less" (defArgs sLess) (defBody sLess) (defScope sLess) .none kV5 dc5 pm5 an5 cd5 ct5), sl5⟩) (c5 : PySem.W.codeIn K cd5 "less" = true) (k5 : PySem.W.keepIn K (.ref f5) = true)
    (a6 : PySem.W.nsIn K mainGlobals "_law_urn" = some (some (.ref f6))) (l6 : K.lookup f6 = some ⟨oc6, od6, .func (PySem.W.fnOf "_law_urn" "_law_urn" (defArgs sUrn) (defBody sUrn) (defScope sUrn) .none kV6 dc6 pm6 an6 cd6 ct6), sl6⟩) (c6 : PySem.W.codeIn K cd6 "_law_urn" = true) (k6 : PySem.W.keepIn K (.ref f6) = true)
    (a7 : PySem.W.nsIn K mainGlobals "_law_take" = some (some (.ref f7))) (l7 : K.lookup f7 = some ⟨oc7, od7, .func (PySem.W.fnOf "_law_take" "_law_take" (defArgs sTake) (defBody sTake) (defScope sTake) .none kV7 dc7 pm7 an7 cd7 ct7), sl7⟩) (c7 : PySem.W.codeIn K cd7 "_law_take" = true) (k7 : PySem.W.keepIn K (.ref f7) = true)
    (a8 : PySem.W.nsIn K mainGlobals "_law_of" = some (some (.ref f8))) (l8 : K.lookup f8 = some ⟨oc8, od8, .func (PySem.W.fnOf "_law_of" "_law_of" (defArgs sOf) (defBody sOf) (defScope sOf) .none kV8 dc8 pm8 an8 cd8 ct8), sl8⟩) (c8 : PySem.W.codeIn K cd8 "_law_of" = true) (k8 : PySem.W.keepIn K (.ref f8) = true)
    (a9 : PySem.W.nsIn K mainGlobals "_law_prime" = some (some (.ref f9))) (l9 : K.lookup f9 = some ⟨oc9, od9, .func (PySem.W.fnOf "_law_prime" "_law_prime" (defArgs sPrime) (defBody sPrime) (defScope sPrime) .none kV9 dc9 pm9 an9 cd9 ct9), sl9⟩) (c9 : PySem.W.codeIn K cd9 "_law_prime" = true) (k9 : PySem.W.keepIn K (.ref f9) = true)
    (a10 : PySem.W.nsIn K mainGlobals "_law_tuple" = some (some (.ref f10))) (l10 : K.lookup f10 = some ⟨oc10, od10, .func (PySem.W.fnOf "_law_tuple" "_law_tuple" (defArgs sTuple) (defBody sTuple) (defScope sTuple) .none kV10 dc10 pm10 an10 cd10 ct10), sl10⟩) (c10 : PySem.W.codeIn K cd10 "_law_tuple" = true) (k10 : PySem.W.keepIn K (.ref f10) = true)
    (a11 : PySem.W.nsIn K mainGlobals "_law_ranked" = some (some (.ref f11))) (l11 : K.lookup f11 = some ⟨oc11, od11, .func (PySem.W.fnOf "_law_ranked" "_law_ranked" (defArgs sRanked) (defBody sRanked) (defScope sRanked) .none kV11 dc11 pm11 an11 cd11 ct11), sl11⟩) (c11 : PySem.W.codeIn K cd11 "_law_ranked" = true) (k11 : PySem.W.keepIn K (.ref f11) = true)
    (a12 : PySem.W.nsIn K mainGlobals "_law_inverse" = some (some (.ref f12))) (l12 : K.lookup f12 = some ⟨oc12, od12, .func (PySem.W.fnOf "_law_inverse" "_law_inverse" (defArgs sLinverse) (defBody sLinverse) (defScope sLinverse) .none kV12 dc12 pm12 an12 cd12 ct12), sl12⟩) (c12 : PySem.W.codeIn K cd12 "_law_inverse" = true) (k12 : PySem.W.keepIn K (.ref f12) = true)
    (a13 : PySem.W.nsIn K mainGlobals "_law_mixed" = some (some (.ref f13))) (l13 : K.lookup f13 = some ⟨oc13, od13, .func (PySem.W.fnOf "_law_mixed" "_law_mixed" (defArgs sMixed) (defBody sMixed) (defScope sMixed) .none kV13 dc13 pm13 an13 cd13 ct13), sl13⟩) (c13 : PySem.W.codeIn K cd13 "_law_mixed" = true) (k13 : PySem.W.keepIn K (.ref f13) = true)
    (a14 : PySem.W.nsIn K mainGlobals "_law_rows" = some (some (.ref f14))) (l14 : K.lookup f14 = some ⟨oc14, od14, .func (PySem.W.fnOf "_law_rows" "_law_rows" (defArgs sRows) (defBody sRows) (defScope sRows) .none kV14 dc14 pm14 an14 cd14 ct14), sl14⟩) (c14 : PySem.W.codeIn K cd14 "_law_rows" = true) (k14 : PySem.W.keepIn K (.ref f14) = true)
    (a15 : PySem.W.nsIn K mainGlobals "_law_shown" = some (some (.ref f15))) (l15 : K.lookup f15 = some ⟨oc15, od15, .func (PySem.W.fnOf "_law_shown" "_law_shown" (defArgs sShown) (defBody sShown) (defScope sShown) .none kV15 dc15 pm15 an15 cd15 ct15), sl15⟩) (c15 : PySem.W.codeIn K cd15 "_law_shown" = true) (k15 : PySem.W.keepIn K (.ref f15) = true)
    (a16 : PySem.W.nsIn K mainGlobals "_law_right" = some (some (.ref f16))) (l16 : K.lookup f16 = some ⟨oc16, od16, .func (PySem.W.fnOf "_law_right" "_law_right" (defArgs sRight) (defBody sRight) (defScope sRight) .none kV16 dc16 pm16 an16 cd16 ct16), sl16⟩) (c16 : PySem.W.codeIn K cd16 "_law_right" = true) (k16 : PySem.W.keepIn K (.ref f16) = true)
    (a17 : PySem.W.nsIn K mainGlobals "law" = some (some (.ref f17))) (l17 : K.lookup f17 = some ⟨oc17, od17, .func (PySem.W.fnOf "law" "law" (defArgs sLaw) (defBody sLaw) (defScope sLaw) .none kV17 dc17 pm17 an17 cd17 ct17), sl17⟩) (c17 : PySem.W.codeIn K cd17 "law" = true) (k17 : PySem.W.keepIn K (.ref f17) = true)
    (z0 : PySem.W.nsIn K mainGlobals "len" = some none)
    (z1 : PySem.W.nsIn K mainGlobals "abs" = some none)
    (z2 : PySem.W.nsIn K mainGlobals "int" = some none)
    (z3 : PySem.W.nsIn K mainGlobals "range" = some none)
    (z4 : PySem.W.nsIn K mainGlobals "max" = some none)
    (z5 : PySem.W.nsIn K mainGlobals "min" = some none)
    (z6 : PySem.W.nsIn K mainGlobals "all" = some none)
    (z7 : PySem.W.nsIn K mainGlobals "sum" = some none)
    (z8 : PySem.W.nsIn K mainGlobals "list" = some none)
    (z9 : PySem.W.nsIn K mainGlobals "tuple" = some none)
    (z10 : PySem.W.nsIn K mainGlobals "isinstance" = some none)
    (z11 : PySem.W.nsIn K mainGlobals "bool" = some none)
    (z12 : PySem.W.nsIn K mainGlobals "repr" = some none)
    (z13 : PySem.W.nsIn K mainGlobals "enumerate" = some none)
    (z14 : PySem.W.nsIn K mainGlobals "zip" = some none)
    (z15 : PySem.W.nsIn K mainGlobals "divmod" = some none)
    (y0 : PySem.W.nsIn K mainGlobals "sorted" = some none)
    : ∃ fd : FuncData, (∀ (s : Shared) (v : Value), BindsTo s fd ⟨[v], []⟩ [("_law_script", v)]) ∧ ∀ base : Heap, K.In base → base.Ns mainGlobals mg → FnG l.prog w K mg base 12 fa fd ["_law_script"] (spLaw K) := by
  have FInverse := fun_mk (st := sInverse) l0 c0 k0
  have AInverse : At K mg "inverse" sInverse ["p", "a"] := ⟨_, _, FInverse, FInverse.binds (ps := ["p", "a"]) fun _ _ _ _ _ _ us hl => match us, hl with | [_, _], _ => rfl, PySem.W.mg_of X G a0⟩
  have FWeights := fun_mk (st := sWeights) l1 c1 k1
  have AWeights : At K mg "weights" sWeights ["p", "rows", "row"] := ⟨_, _, FWeights, FWeights.binds (ps := ["p", "rows", "row"]) fun _ _ _ _ _ _ us hl => match us, hl with | [_, _, _], _ => rfl, PySem.W.mg_of X G a1⟩
  have FEquations := fun_mk (st := sEquations) l2 c2 k2
  have AEquations : At K mg "equations" sEquations ["rows", "row"] := ⟨_, _, FEquations, FEquations.binds (ps := ["rows", "row"]) fun _ _ _ _ _ _ us hl => match us, hl with | [_, _], _ => rfl, PySem.W.mg_of X G a2⟩
  have FEchelon := fun_mk (st := sEchelon) l3 c3 k3
  have AEchelon : At K mg "echelon" sEchelon ["p", "rows"] := ⟨_, _, FEchelon, FEchelon.binds (ps := ["p", "rows"]) fun _ _ _ _ _ _ us hl => match us, hl with | [_, _], _ => rfl, PySem.W.mg_of X G a3⟩
  have FTimes := fun_mk (st := sTimes) l4 c4 k4
  have ATimes : At K mg "times" sTimes ["p", "factor", "row"] := ⟨_, _, FTimes, FTimes.binds (ps := ["p", "factor", "row"]) fun _ _ _ _ _ _ us hl => match us, hl with | [_, _, _], _ => rfl, PySem.W.mg_of X G a4⟩
  have FLess := fun_mk (st := sLess) l5 c5 k5
  have ALess : At K mg "less" sLess ["p", "row", "factor", "other"] := ⟨_, _, FLess, FLess.binds (ps := ["p", "row", "factor", "other"]) fun _ _ _ _ _ _ us hl => match us, hl with | [_, _, _, _], _ => rfl, PySem.W.mg_of X G a5⟩
  have FUrn := fun_mk (st := sUrn) l6 c6 k6
  have AUrn : At K mg "_law_urn" sUrn ["_law_script", "_law_k"] := ⟨_, _, FUrn, FUrn.binds (ps := ["_law_script", "_law_k"]) fun _ _ _ _ _ _ us hl => match us, hl with | [_, _], _ => rfl, PySem.W.mg_of X G a6⟩
  have FTake := fun_mk (st := sTake) l7 c7 k7
  have ATake : At K mg "_law_take" sTake ["_law_urn_here", "_law_below"] := ⟨_, _, FTake, FTake.binds (ps := ["_law_urn_here", "_law_below"]) fun _ _ _ _ _ _ us hl => match us, hl with | [_, _], _ => rfl, PySem.W.mg_of X G a7⟩
  have FOf := fun_mk (st := sOf) l8 c8 k8
  have AOf : At K mg "_law_of" sOf ["_law_urn_here", "_law_items"] := ⟨_, _, FOf, FOf.binds (ps := ["_law_urn_here", "_law_items"]) fun _ _ _ _ _ _ us hl => match us, hl with | [_, _], _ => rfl, PySem.W.mg_of X G a8⟩
  have FPrime := fun_mk (st := sPrime) l9 c9 k9
  have APrime : At K mg "_law_prime" sPrime ["_law_urn_here"] := ⟨_, _, FPrime, FPrime.binds (ps := ["_law_urn_here"]) fun _ _ _ _ _ _ us hl => match us, hl with | [_], _ => rfl, PySem.W.mg_of X G a9⟩
  have FTuple := fun_mk (st := sTuple) l10 c10 k10
  have ATuple : At K mg "_law_tuple" sTuple ["_law_urn_here", "_law_q", "_law_count"] := ⟨_, _, FTuple, FTuple.binds (ps := ["_law_urn_here", "_law_q", "_law_count"]) fun _ _ _ _ _ _ us hl => match us, hl with | [_, _, _], _ => rfl, PySem.W.mg_of X G a10⟩
  have FRanked := fun_mk (st := sRanked) l11 c11 k11
  have ARanked : At K mg "_law_ranked" sRanked ["_law_q", "_law_lines"] := ⟨_, _, FRanked, FRanked.binds (ps := ["_law_q", "_law_lines"]) fun _ _ _ _ _ _ us hl => match us, hl with | [_, _], _ => rfl, PySem.W.mg_of X G a11⟩
  have FLinverse := fun_mk (st := sLinverse) l12 c12 k12
  have ALinverse : At K mg "_law_inverse" sLinverse ["_law_q", "_law_a"] := ⟨_, _, FLinverse, FLinverse.binds (ps := ["_law_q", "_law_a"]) fun _ _ _ _ _ _ us hl => match us, hl with | [_, _], _ => rfl, PySem.W.mg_of X G a12⟩
  have FMixed := fun_mk (st := sMixed) l13 c13 k13
  have AMixed : At K mg "_law_mixed" sMixed ["_law_urn_here", "_law_q", "_law_lines", "_law_length"] := ⟨_, _, FMixed, FMixed.binds (ps := ["_law_urn_here", "_law_q", "_law_lines", "_law_length"]) fun _ _ _ _ _ _ us hl => match us, hl with | [_, _, _, _], _ => rfl, PySem.W.mg_of X G a13⟩
  have FRows := fun_mk (st := sRows) l14 c14 k14
  have ARows : At K mg "_law_rows" sRows ["_law_urn_here", "_law_q", "_law_count", "_law_length"] := ⟨_, _, FRows, FRows.binds (ps := ["_law_urn_here", "_law_q", "_law_count", "_law_length"]) fun _ _ _ _ _ _ us hl => match us, hl with | [_, _, _, _], _ => rfl, PySem.W.mg_of X G a14⟩
  have FShown := fun_mk (st := sShown) l15 c15 k15
  have AShown : At K mg "_law_shown" sShown ["_law_q", "_law_lines", "_law_line", "_law_told"] := ⟨_, _, FShown, FShown.binds (ps := ["_law_q", "_law_lines", "_law_line", "_law_told"]) fun _ _ _ _ _ _ us hl => match us, hl with | [_, _, _, _], _ => rfl, PySem.W.mg_of X G a15⟩
  have FRight := fun_mk (st := sRight) l16 c16 k16
  have ARight : At K mg "_law_right" sRight ["_law_q", "_law_lines", "_law_line"] := ⟨_, _, FRight, FRight.binds (ps := ["_law_q", "_law_lines", "_law_line"]) fun _ _ _ _ _ _ us hl => match us, hl with | [_, _, _], _ => rfl, PySem.W.mg_of X G a16⟩
  have FLaw := fun_mk (st := sLaw) l17 c17 k17
  have ALaw : At K mg "law" sLaw ["_law_script"] := ⟨_, _, FLaw, FLaw.binds (ps := ["_law_script"]) fun _ _ _ _ _ _ us hl => match us, hl with | [_], _ => rfl, PySem.W.mg_of X G a17⟩
  have M : Bl mg := ⟨PySem.W.mg_none_of X G z0, PySem.W.mg_none_of X G z1, PySem.W.mg_none_of X G z2, PySem.W.mg_none_of X G z3, PySem.W.mg_none_of X G z4, PySem.W.mg_none_of X G z5, PySem.W.mg_none_of X G z6, PySem.W.mg_none_of X G z7, PySem.W.mg_none_of X G z8, PySem.W.mg_none_of X G z9, PySem.W.mg_none_of X G z10, PySem.W.mg_none_of X G z11, PySem.W.mg_none_of X G z12, PySem.W.mg_none_of X G z13, PySem.W.mg_none_of X G z14, PySem.W.mg_none_of X G z15⟩
  have m_sorted := PySem.W.mg_none_of X G y0
  refine ⟨PySem.W.fnOf "law" "law" (defArgs sLaw) (defBody sLaw) (defScope sLaw) .none kV17 dc17 pm17 an17 cd17 ct17, fun s v => .of_eq rfl, fun base _ _ => ?_⟩
  have hT : Has l.prog w K mg base 1 "_law_take" ["_law_urn_here", "_law_below"] spTake := has_take ATake
  have hO : Has l.prog w K mg base 2 "_law_of" ["_law_urn_here", "_law_items"] (spOf K) := has_of M AOf ATake
  have hE := ok_ech (k := 1) M AEchelon (ok_inv (P := l.prog) (w := w) (base := base) (k := 0) AInverse) (ok_times M ATimes) (ok_less M ALess)
  have hW := ok_wts M m_sorted AWeights hE ((ok_eqs (k := 0) M AEquations).up (by decide))
  have hMx := ok_mixed M AMixed hO (hT.up (by decide))
  have hTu := ok_tup M ATuple hO (hT.up (by decide))
  have hRo := ok_rows M ARows (hO.up (by decide)) (hT.up (by decide)) hMx hTu
  have hRa := ok_ranked M ARanked (ok_linv (P := l.prog) (w := w) (base := base) (k := 0) ALinverse)
  have hSh := ok_shown M AShown hRa
  have hRi := ok_right (k := 3) M ARight AWeights (hRa.up (by decide)) hSh hW
  have hLaw := ok_law (k := 11) M ALaw ((has_urn M AUrn).up (by decide)) (hT.up (by decide)) ((ok_prime APrime hO).up (by decide)) (hO.up (by decide)) (hRo.up (by decide)) (hMx.up (by decide)) (hTu.up (by decide)) (hRi.up (by decide)) (hW.up (by decide))

  obtain ⟨f, fd, c⟩ := hLaw
  cases hfa.symm.trans c.g
  cases hfa.symm.trans (PySem.W.mg_of X G a17)
  obtain ⟨_, _, _, e⟩ := c.lk
  cases e.symm.trans l17
  exact c.ok
end K04
open PySem PySem.W PyProof.Rows
set_option maxRecDepth 100000 in
set_option maxHeartbeats 0 in
theorem PySem.Challenge.cw_leastjournal_k04_weights_holds : PySem.Challenge.rw_leastjournal_k04_weights.Holds := by
  w_on; o_law; k_head; (case hw => w_witness2)
  k_fill
  refine Lj.walk_G (l := PySem.Challenge.rw_leastjournal_k04_weights) (n := 63) (k := 12) (x := "_law_script") (sp := K04.spLaw) rfl (by decide) rfl ⟨rfl, by decide, by decide⟩ (fun w h Y => PySem.W.kIn_of Y) ?F (fun _ _ a ns hl _ hS => ⟨a, ns, rfl, hS, hl, fun _ => rfl⟩)
  case F =>
    intro w mg fa h KX G hmg
    refine' K04.all_mk KX G hmg ?a0 ?l0 ?c0 ?k0 ?a1 ?l1 ?c1 ?k1 ?a2 ?l2 ?c2 ?k2 ?a3 ?l3 ?c3 ?k3 ?a4 ?l4 ?c4 ?k4 ?a5 ?l5 ?c5 ?k5 ?a6 ?l6 ?c6 ?k6 ?a7 ?l7 ?c7 ?k7 ?a8 ?l8 ?c8 ?k8 ?a9 ?l9 ?c9 ?k9 ?a10 ?l10 ?c10 ?k10 ?a11 ?l11 ?c11 ?k11 ?a12 ?l12 ?c12 ?k12 ?a13 ?l13 ?c13 ?k13 ?a14 ?l14 ?c14 ?k14 ?a15 ?l15 ?c15 ?k15 ?a16 ?l16 ?c16 ?k16 ?a17 ?l17 ?c17 ?k17 ?z0 ?z1 ?z2 ?z3 ?z4 ?z5 ?z6 ?z7 ?z8 ?z9 ?z10 ?z11 ?z12 ?z13 ?z14 ?z15 ?y0
    (case a0 => k_is); (case l0 => k_is); (case c0 => k_is); (case k0 => k_is); (case a1 => k_is); (case l1 => k_is); (case c1 => k_is); (case k1 => k_is); (case a2 => k_is); (case l2 => k_is); (case c2 => k_is); (case k2 => k_is); (case a3 => k_is); (case l3 => k_is); (case c3 => k_is); (case k3 => k_is); (case a4 => k_is); (case l4 => k_is); (case c4 => k_is); (case k4 => k_is); (case a5 => k_is); (case l5 => k_is); (case c5 => k_is); (case k5 => k_is); (case a6 => k_is); (case l6 => k_is); (case c6 => k_is); (case k6 => k_is); (case a7 => k_is); (case l7 => k_is); (case c7 => k_is); (case k7 => k_is); (case a8 => k_is); (case l8 => k_is); (case c8 => k_is); (case k8 => k_is); (case a9 => k_is); (case l9 => k_is); (case c9 => k_is); (case k9 => k_is); (case a10 => k_is); (case l10 => k_is); (case c10 => k_is); (case k10 => k_is); (case a11 => k_is); (case l11 => k_is); (case c11 => k_is); (case k11 => k_is); (case a12 => k_is); (case l12 => k_is); (case c12 => k_is); (case k12 => k_is); (case a13 => k_is); (case l13 => k_is); (case c13 => k_is); (case k13 => k_is); (case a14 => k_is); (case l14 => k_is); (case c14 => k_is); (case k14 => k_is); (case a15 => k_is); (case l15 => k_is); (case c15 => k_is); (case k15 => k_is); (case a16 => k_is); (case l16 => k_is); (case c16 => k_is); (case k16 => k_is); (case a17 => k_is); (case l17 => k_is); (case c17 => k_is); (case k17 => k_is); (case z0 => k_is); (case z1 => k_is); (case z2 => k_is); (case z3 => k_is); (case z4 => k_is); (case z5 => k_is); (case z6 => k_is); (case z7 => k_is); (case z8 => k_is); (case z9 => k_is); (case z10 => k_is); (case z11 => k_is); (case z12 => k_is); (case z13 => k_is); (case z14 => k_is); (case z15 => k_is); (case y0 => k_is)
