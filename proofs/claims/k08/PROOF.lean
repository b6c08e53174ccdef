import PyProof.Rows.All
import Wide.All
import OpenK.AllK
import Wide.FinOn
import HandS.ForMost
import HandS.Wide
import HandS.IsInst
import HandS.Flow
import HandS.Evl
import PyProof.StrBlock2
import HandS.WideBits
import HandS.Walk
import HandS.TupAny
import HandS.Conv
import PySem.Challenge.RW_leastjournal_k08_whole_steps_of_great_lo
set_option Elab.async false
set_option linter.all false
set_option maxRecDepth 100000
namespace Lj
open PySem PySem.Spec PyProof.Rows L2
section
variable {X : Cx}
theorem op_mulS : OpR X (binaryOp .Mult) (fun x y H Q => ∃ z n, x = .str z ∧ y = .int n ∧ MulOk z n ∧ Q (.str (Txt.mul z n)) H) := by
  intro pins s σ H x y v u Q I rx ry h
  obtain ⟨z, n, rfl, rfl, ok, q⟩ := h
  obtain ⟨t, rfl⟩ := rx
  obtain ⟨t', rfl⟩ := ry
  exact SB.mul ok fun t2 k => ⟨.str _, H, I.tok _, ⟨_, rfl⟩, q⟩
end
section
variable {X : Cx} {CX : CXT} {k : Nat} {f : Addr} {fd : FuncData} {ps ks : List Str} {sp : Sp} {E : XK} {x : Str} {p pos : Pos} {kws : List Keyword} {tk : TA}
  {g : List Value → List Value → List Value} {gV : List V → List V → List V}
/-- f(k = v, ..), no positional arguments -/
theorem pe_callK0 (F : FnOk X.prog X.w X.K X.mg X.base CX k f fd ps sp) (hr : Room k X.A) (hg : Gl X x) (hm : X.mg x = some (.ref f)) (hk : PySem.W.keepIn X.K (.ref f) = true) (hb : KBinds X.K fd ps ks g gV) (hx : Passes CX X E)
    (hkw : PK X kws tk) (hall : (backToKw pos (keywordEach kws X.env)).all (·.1.isSome) = true := by rfl) (hks : (backToKw pos (keywordEach kws X.env)).filterMap (·.1) = ks := by rfl)
    (hdb : (x == ("__debug__" : Str)) = false := by decide)
    (hpl : ((backTo pos (starEach [] X.env)).any (·.1) || (backToKw pos (keywordEach kws X.env)).any (·.1.isNone)) = false := by rfl) :
    PE X (.Call (.Name x p) [] kws pos) (fun σ H Q => tk σ H fun zs H1 => sp (gV [] zs) H1 Q E) := by
  refine ⟨fun pins s σ H Q I h => ?_⟩
  refine wpAny_Call_Name_kw (ld_glob I hg hm ?_ hdb)
  refine PySem.W.callWith_KW0 (h₀ := X.base) I.ok.mod.kin hk hall (thn (hkw.run pos pins s σ H _ I h) fun ws s2 ⟨zs, H2, I2, rz, q2⟩ => ⟨I2.kIn, ?_⟩) hpl
  rw [hks]
  exact run_fnk (us := []) (vs := []) F hr hb hx I2 .nil rz q2
end
/-! ### heaps -/
theorem same_new {H : Hp} {p : Addr} {o : HO} (h : H p = none) : Same H (upd H p o) := fun b x e => by
  rw [upd_ne (ne_of_none e h)]
  exact e
/-- all but p stands as before -/
def But (p : Addr) (H H' : Hp) : Prop := ∀ b o, b ≠ p → H b = some o → H' b = some o
theorem But.refl (p : Addr) (H : Hp) : But p H H := fun _ _ _ h => h
theorem But.trans {p : Addr} {H H1 H2 : Hp} (a : But p H H1) (b : But p H1 H2) : But p H H2 := fun c o n h => b c o n (a c o n h)
theorem But.same {p : Addr} {H H' : Hp} (s : Same H H') : But p H H' := fun b o _ h => s b o h
theorem But.new {p q : Addr} {H : Hp} {o : HO} (h : H q = none) : But p H (upd H q o) := But.same (same_new h)
theorem But.upd {p : Addr} {H : Hp} {o : HO} : But p H (upd H p o) := fun b x n e => by
  rw [upd_ne n]
  exact e
theorem But.rd {p a : Addr} {H H' : Hp} {u : HO} (b : But p H H') (n : a ≠ p) (h : Rd H a u) : Rd H' a u := by
  rcases h with h | ⟨o, h⟩
  · exact .inl (b _ _ n h)
  · exact .inr ⟨o, b _ _ n h⟩
theorem But.seq {K : PySem.W.Frag} {p a : Addr} {H H' : Hp} {xs : List V} (b : But p H H') (n : a ≠ p) (h : SqL K H a xs) : SqL K H' a xs := by
  rcases h with h | h
  · exact .inl (b.rd n h)
  · exact .inr h
theorem But.tup {K : PySem.W.Frag} {p a : Addr} {H H' : Hp} {xs : List V} (b : But p H H') (n : a ≠ p) (h : SqT K H a xs) : SqT K H' a xs := by
  rcases h with h | h
  · exact .inl (b.rd n h)
  · exact .inr h
/-! ### the urn: two numbers in a list -/
def wide : Nat := 2 ^ 1000
def Urn (H : Hp) (p : Addr) : Prop := ∃ u v : Int, H p = some (.lst [.int u, .int v]) ∧ 0 ≤ u ∧ u.natAbs < wide ∧ 0 ≤ v ∧ v < 2305843009213693951
theorem Urn.but {p q : Addr} {H H' : Hp} (b : But q H H') (n : p ≠ q) (h : Urn H p) : Urn H' p := by
  obtain ⟨u, v, e, r⟩ := h
  exact ⟨u, v, b _ _ n e, r⟩
theorem Urn.same {p : Addr} {H H' : Hp} (b : Same H H') (h : Urn H p) : Urn H' p := by
  obtain ⟨u, v, e, r⟩ := h
  exact ⟨u, v, b _ _ e, r⟩
theorem Urn.ne {p q : Addr} {H : Hp} (h : Urn H p) (e : H q = none) : q ≠ p := by
  obtain ⟨u, v, e', _⟩ := h
  exact (ne_of_none e' e).symm
theorem Urn.free {p q : Addr} {H H' : Hp} (h : Urn H' p) (b : But p H H') (e : H' q = none) : H q = none := by
  have n := h.ne e
  cases z : H q with
  | none => rfl
  | some o => rw [b _ _ n z] at e; cases e
def spUrn (K : PySem.W.Frag) : Sp := fun vs H Q _ => ∃ (a : Addr) (ns : List Int) (k : Int), vs = [.ref a, .int k] ∧ SqL K H a (ns.map V.int) ∧ 0 ≤ k ∧ k ≤ 1000 ∧
  ∀ H' p, Same H H' → H p = none → Urn H' p → Q (.ref p) H'
def spTake : Sp := fun vs H Q _ => ∃ (p : Addr) (n : Int), vs = [.ref p, .int n] ∧ Urn H p ∧ 0 < n ∧ n.natAbs < wide ∧
  ∀ (d : Int) H', 0 ≤ d → d < n → Urn H' p → But p H H' → Q (.int d) H'
def spOf (K : PySem.W.Frag) : Sp := fun vs H Q _ => ∃ (p q : Addr) (xs : List V), vs = [.ref p, .ref q] ∧ Urn H p ∧ q ≠ p ∧ SqL K H q xs ∧ xs ≠ [] ∧ xs.length ≤ 1000 ∧
  ∀ x H', x ∈ xs → Urn H' p → But p H H' → Q x H'
def urnText : Str := "1" ++ Txt.mul "0" 300
theorem urnText_int : PySem.intText? urnText = some (10 ^ 300) := by decide +kernel
theorem urnText_len : urnText.length ≤ 640 := by decide +kernel
theorem mul_ok0 : MulOk "0" 300 := ⟨by decide, fun _ _ => by decide, fun _ _ => by decide⟩
theorem small {n : Nat} (h : n ≤ 1000) : n ≤ sizeLine := Nat.le_of_lt (small1000 h)
theorem own_lt (c : Int) (b : Bool) : 0 ≤ (if c < 0 then -c else c) % 10 ^ 300 * (if b then 1 else 0) ∧ ((if c < 0 then -c else c) % 10 ^ 300 * (if b then 1 else 0)).natAbs < wide := by
  have h1 : 0 ≤ (if c < 0 then -c else c) % (10 ^ 300 : Int) := Int.emod_nonneg _ (by decide)
  have h2 : (if c < 0 then -c else c) % (10 ^ 300 : Int) < 10 ^ 300 := Int.emod_lt_of_pos _ (by decide)
  generalize (if c < 0 then -c else c) % (10 ^ 300 : Int) = z at h1 h2
  have h3 : (10 ^ 300 : Int) < (wide : Int) := by decide +kernel
  have h4 : 0 < wide := by decide +kernel
  cases b with
  | true =>
    rw [if_pos rfl, Int.mul_one]
    exact ⟨h1, by omega⟩
  | false =>
    rw [if_neg Bool.false_ne_true, Int.mul_zero]
    exact ⟨Int.le_refl 0, h4⟩
theorem ind_bd (b : Bool) : -(2 ^ 64) < (if b then 1 else 0 : Int) ∧ (if b then 1 else 0 : Int) < 2 ^ 64 := by
  cases b
  · exact ⟨by decide, by decide⟩
  · exact ⟨by decide, by decide⟩
def nx (v : Int) : Int := (v * 1181783497276652981 + 12345678910987) % 2305843009213693951
theorem nx0 (v : Int) : 0 ≤ nx v := Int.emod_nonneg _ (by decide)
theorem nx1 (v : Int) : nx v < 2305843009213693951 := Int.emod_lt_of_pos _ (by decide)
def ny (v : Int) : Int := (v * 3202034522624059733 + 1) % 2305843009213693951
theorem ny0 (v : Int) : 0 ≤ ny v := Int.emod_nonneg _ (by decide)
theorem ny1 (v : Int) : ny v < 2305843009213693951 := Int.emod_lt_of_pos _ (by decide)
theorem at_int {ns : List Int} {k : Int} (h0 : 0 ≤ k) (h : k < (ns.length : Int)) : ∃ v : Int, v ∈ ns ∧ atI (ns.map V.int) k = some (.int v) := by
  have hk : k.toNat < ns.length := by omega
  have ek : k = ((k.toNat : Nat) : Int) := by omega
  have q : atI (ns.map V.int) ((k.toNat : Nat) : Int) = some (.int ns[k.toNat]) := atI_nat (by rw [List.getElem?_map, List.getElem?_eq_getElem hk] <;> rfl)
  rw [← ek] at q
  exact ⟨ns[k.toNat], List.getElem_mem hk, q⟩
theorem at_any {xs : List V} {k : Int} (h0 : 0 ≤ k) (h : k < (xs.length : Int)) : ∃ v : V, v ∈ xs ∧ atI xs k = some v := by
  have hk : k.toNat < xs.length := by omega
  have ek : k = ((k.toNat : Nat) : Int) := by omega
  have q : atI xs ((k.toNat : Nat) : Int) = some xs[k.toNat] := atI_nat (List.getElem?_eq_getElem hk)
  rw [← ek] at q
  exact ⟨xs[k.toNat], List.getElem_mem hk, q⟩
theorem iteP {c A B : Prop} [Decidable c] (h : c) (a : A) : if decide c = true then A else B := by
  rw [decide_eq_true h]
  exact a
theorem iteN {c A B : Prop} [Decidable c] (h : ¬ c) (b : B) : if decide c = true then A else B := by
  rw [decide_eq_false h]
  exact b
/-! ### rules with the written part named: for the blocks of comprehensions -/
section
variable {X : Cx} {K : PySem.W.Frag}
theorem ix_tupK (h : X.K = K) : IxR X (rIxT K) := h ▸ ix_tup
theorem ix_listK (h : X.K = K) : IxR X (rIxL K) := h ▸ ix_list
def rLenS (K : PySem.W.Frag) : List V → Hp → VK → Prop := fun xs H Q => ∃ p ys, xs = [.ref p] ∧ (SqL K H p ys ∨ SqT K H p ys) ∧ Q (.int ys.length) H
theorem call_len_seqK (h : X.K = K) : CallR X (.builtin "len") (rLenS K) := h ▸ call_len_seq
end
end Lj
set_option Elab.async false
set_option linter.all false
set_option maxRecDepth 100000
namespace Lj
open PySem PySem.Spec PyProof.Rows L2
/-! ### promises of defs that are called where no repr is under way -/
/-- the def at f keeps sp wherever nothing is being shown -/
structure FnG (P : Program) (w : World) (K : PySem.W.Frag) (mg : Str → Option Value) (base : Heap) (k : Nat) (f : Addr) (fd : FuncData) (ps : List Str) (sp : Sp) : Prop where
  len : ∀ vs H Q E, sp vs H Q E → vs.length = ps.length
  run : ∀ (A : Around) (out : List Env) (s : Shared) (H : Hp) (as : Args) (us : List Value) (vs : List V) (Q : VK) (E : XK), A.guards = some [] → Room k A → Env0 P w K mg base A out s H →
    BindsTo s fd as (ps.zip us) → Vals vs us → sp vs H Q E → codeAny (model P w) A (.call (.ref f) as) (CR CX0 out P w H s Q E) s
section
variable {P : Program} {w : World} {K : PySem.W.Frag} {mg : Str → Option Value} {base : Heap} {j k : Nat} {f : Addr} {fd : FuncData} {ps : List Str} {sp sp' : Sp}
theorem FnG.of (F : FnOk P w K mg base CX0 k f fd ps sp) : FnG P w K mg base k f fd ps sp := ⟨F.len, fun A out s H as us vs Q E _ => F.run A out s H as us vs Q E⟩
theorem FnG.up (F : FnG P w K mg base j f fd ps sp) (h : j ≤ k) : FnG P w K mg base k f fd ps sp := ⟨F.len, fun A out s H as us vs Q E g r => F.run A out s H as us vs Q E g (r.mono h)⟩
theorem FnG.weak (F : FnG P w K mg base k f fd ps sp) (h : ∀ vs H Q E, sp' vs H Q E → sp vs H Q E) : FnG P w K mg base k f fd ps sp' :=
  ⟨fun vs H Q E q => F.len vs H Q E (h _ _ _ _ q), fun A out s H as us vs Q E g r e b v q => F.run A out s H as us vs Q E g r e b v (h _ _ _ _ q)⟩
/-- by the def's body, where nothing is being shown -/
theorem FnG.body {x qual : Str} {st : Stmt} {N : List Str} (F : Fun K x qual st f fd) (S : FnScope N ps (defScope st)) (len : ∀ vs H Q E, sp vs H Q E → vs.length = ps.length)
    (hb : ∀ (cdv : Value) (A : Around) (out : List Env) (s : Shared) (H : Hp) (vs : List V) (Q : VK) (E : XK), A.guards = some [] → Room k (A.deeper (envOfC qual (defScope st) s.heap.objs.size f cdv)) → sp vs H Q E →
      ∃ t, PSs (cxOf CX0 P w K mg base N qual (defScope st) f cdv A out s H E).nox (defBody st) t ∧ t { nx := fun _ H' => Q .non H', rt := Q } (start N vs) H) : FnG P w K mg base (k + 1) f fd ps sp := by
  obtain ⟨c0, c1, c2, c3, c4, c5, cd, c6, c7, rfl, look, code⟩ := F.ex
  refine ⟨len, fun A out s H as us vs Q E hg room env bind vals want => ?_⟩
  have ln := len _ _ _ _ want
  have old : ∀ b o, base.get? b = some o → s.heap.get? b = some o := fun b o e => (env.bs b o e).1
  have here : K.In s.heap := env.mod.kin.keeps old
  refine codeAny_call_function room.depth (here _ _ look) rfl S.co S.gen rfl (PySem.W.codeRec_of here code) (bind _ _ _ _ ?_)
  refine wpAny_newFunctionEnv_cells S.kind (fun ⟨n, v⟩ m => (S.par n (List.of_mem_zip m).1).elim .inl fun c => .inr ⟨c, PySem.W.cellsFrom_some _ _ _ (.inl c)⟩) fun en he s1 x => ?_
  subst he
  refine ⟨(env.mod.nolimit.keeps old).keeps x.toInCall.keep, codeAny_func ?_⟩
  obtain ⟨t, rule, holds⟩ := hb cd A out s H vs Q E hg (room.deeper _) want
  have start0 := inv_start (CX := CX0) (E := E) S room.hd env ln vals x
  refine wpAny_mono (rule.nox.run [] s1 (start N vs) H _ start0 holds) (fun r s' z => ?_) fun _ _ z => z
  match r, z with
  | .ret u, ⟨v, σ', H', J, rv, q⟩ => exact ⟨v, H', J.os, J.bare, J.base, J.hok, rv, q⟩
  | .next, ⟨σ', H', J, q⟩ => exact ⟨.non, H', J.os, J.bare, J.base, J.hok, rfl, q⟩
  | .brk, ⟨_, _, _, q⟩ => exact False.elim q
  | .cont, ⟨_, _, _, q⟩ => exact False.elim q
end
/-- where a def stands, under the name x, with its promise -/
structure Cal (P : Program) (w : World) (K : PySem.W.Frag) (mg : Str → Option Value) (base : Heap) (k : Nat) (x : Str) (ps : List Str) (f : Addr) (fd : FuncData) (sp : Sp) : Prop where
  ok : FnG P w K mg base k f fd ps sp
  kp : PySem.W.keepIn K (.ref f) = true
  b : Binds K fd ps []
  g : mg x = some (.ref f)
  lk : ∃ oc od osl, K.lookup f = some ⟨oc, od, .func fd, osl⟩
theorem fun_lk {K : PySem.W.Frag} {x qual : Str} {st : Stmt} {f : Addr} {fd : FuncData} (F : Fun K x qual st f fd) : ∃ oc od osl, K.lookup f = some ⟨oc, od, .func fd, osl⟩ := by
  obtain ⟨c0, c1, c2, c3, c4, c5, cd, c6, c7, e, look, code⟩ := F.ex
  exact ⟨_, _, _, look⟩
def Has (P : Program) (w : World) (K : PySem.W.Frag) (mg : Str → Option Value) (base : Heap) (k : Nat) (x : Str) (ps : List Str) (sp : Sp) : Prop := ∃ f fd, Cal P w K mg base k x ps f fd sp
/-- the def of the text st stands under the name x -/
def At (K : PySem.W.Frag) (mg : Str → Option Value) (x : Str) (st : Stmt) (ps : List Str) : Prop := ∃ f fd, Fun K x x st f fd ∧ Binds K fd ps [] ∧ mg x = some (.ref f)
section
variable {P : Program} {w : World} {K : PySem.W.Frag} {mg : Str → Option Value} {base : Heap} {j k : Nat} {x : Str} {ps : List Str} {sp sp' : Sp}
theorem Has.up (h : Has P w K mg base j x ps sp) (l : j ≤ k) : Has P w K mg base k x ps sp := by
  obtain ⟨f, fd, c⟩ := h
  exact ⟨f, fd, c.ok.up l, c.kp, c.b, c.g, c.lk⟩
theorem Has.weak (h : Has P w K mg base k x ps sp) (i : ∀ vs H Q E, sp' vs H Q E → sp vs H Q E) : Has P w K mg base k x ps sp' := by
  obtain ⟨f, fd, c⟩ := h
  exact ⟨f, fd, c.ok.weak i, c.kp, c.b, c.g, c.lk⟩
theorem Has.by {st : Stmt} {N : List Str} (F : At K mg x st ps) (S : FnScope N ps (defScope st)) (len : ∀ vs H Q E, sp vs H Q E → vs.length = ps.length)
    (hb : ∀ (f : Addr) (cdv : Value) (A : Around) (out : List Env) (s : Shared) (H : Hp) (vs : List V) (Q : VK) (E : XK), A.guards = some [] → Room k (A.deeper (envOfC x (defScope st) s.heap.objs.size f cdv)) → sp vs H Q E →
      ∃ t, PSs (cxOf CX0 P w K mg base N x (defScope st) f cdv A out s H E).nox (defBody st) t ∧ t { nx := fun _ H' => Q .non H', rt := Q } (start N vs) H) : Has P w K mg base (k + 1) x ps sp := by
  obtain ⟨f, fd, F, b, g⟩ := F
  exact ⟨f, fd, .body F S len (hb f), F.kp, b, g, fun_lk F⟩
end
/-- the def behind a name is the text's -/
theorem Cal.text {P : Program} {w : World} {K : PySem.W.Frag} {mg : Str → Option Value} {base : Heap} {k : Nat} {x : Str} {ps qs : List Str} {f : Addr} {fd : FuncData} {sp : Sp} {st : Stmt} (c : Cal P w K mg base k x ps f fd sp) (F : At K mg x st qs) : Fun K x x st f fd := by
  obtain ⟨f2, fd2, F2, _, g2⟩ := F
  have e := c.g.symm.trans g2
  cases e
  obtain ⟨_, _, _, l1⟩ := c.lk
  obtain ⟨_, _, _, l2⟩ := fun_lk F2
  have e := l1.symm.trans l2
  cases e
  exact F2
section
variable {X : Cx} {k : Nat} {x : Str} {ps ks : List Str} {f : Addr} {fd : FuncData} {sp : Sp} {p pos : Pos} {e : Expr} {es : List Expr} {kws : List Keyword} {t tk : TA}
  {g : List Value → List Value → List Value} {gV : List V → List V → List V}
def tCal (sp : Sp) (t : TA) : TE := fun σ H Q => t σ H fun vs H1 => sp vs H1 Q E0
def tCal0 (sp : Sp) : TE := fun _ H Q => sp [] H Q E0
def tCalK (sp : Sp) (gV : List V → List V → List V) (t tk : TA) : TE := fun σ H Q => t σ H fun vs H1 => tk σ H1 fun zs H2 => sp (gV vs zs) H2 Q E0
theorem cal_run {pins : List (Addr × Obj)} {σ : L2.St} {H : Hp} {s : Shared} {Q : VK} {us ws zs : List Value} {vs : List V} {kw : List (Str × Value)} {s2 : Shared} (c : FnG X.prog X.w X.K X.mg X.base k f fd ps sp) (hg : X.A.guards = some []) (hr : Room k X.A)
    (I : Inv X pins σ H s) (bind : BindsTo s fd ⟨us, kw⟩ (ps.zip zs)) (vals : Vals vs zs) (h : sp vs H Q E0) : wpAny (model X.prog X.w) X.A (call (.ref f) us kw) (EP X pins σ Q) X.xe s := by
  refine wpAny_call (codeAny_mono (c.run X.A X.stack s H ⟨us, kw⟩ zs vs Q E0 hg hr I.env0 bind vals h) fun r s' z => ?_)
  match r, z with
  | .error _, z => exact z.elim
  | .ok (.ret _), z => exact I.after z
  | .ok .next, z => exact z.elim
  | .ok .brk, z => exact z.elim
  | .ok .cont, z => exact z.elim
/-- f(e, ..) -/
theorem pe_cal (c : Cal X.prog X.w X.K X.mg X.base k x ps f fd sp) (hg : X.A.guards = some []) (hr : Room k X.A) (gl : Gl X x) (ha : PA X (e :: es) t) (hdb : (x == ("__debug__" : Str)) = false := by decide)
    (he : starEach (e :: es) X.env = (false, eval e X.env) :: starEach es X.env := by rfl) (hpl : (backTo pos (starEach es X.env)).any (·.1) = false := by rfl) :
    PE X (.Call (.Name x p) (e :: es) [] pos) (tCal sp t) := by
  refine ⟨fun pins s σ H Q I h => wpAny_Call_Name_kw (ld_glob I gl c.g ?_ hdb)⟩
  refine PySem.W.callWith_K (h₀ := X.base) I.ok.mod.kin c.kp (thn (ha.run pos pins s σ H _ I h) fun us s1 ⟨vs, H1, I1, r, q⟩ => ⟨I1.kIn, ?_⟩) he hpl
  have ln : (us ++ []).length = ps.length := by
    rw [List.append_nil, ← r.length]
    exact c.ok.len _ _ _ _ q
  have bd := c.b s1 us I1.kIn ln
  rw [List.append_nil] at bd
  exact cal_run (ws := []) (s2 := s1) c.ok hg hr I1 bd r q
/-- f() -/
theorem pe_cal0 (c : Cal X.prog X.w X.K X.mg X.base k x ps f fd sp) (hg : X.A.guards = some []) (hr : Room k X.A) (gl : Gl X x) (hdb : (x == ("__debug__" : Str)) = false := by decide) :
    PE X (.Call (.Name x p) [] [] pos) (tCal0 sp) := by
  refine ⟨fun pins s σ H Q I h => wpAny_Call_Name_kw (ld_glob I gl c.g ?_ hdb)⟩
  have ln := c.ok.len _ _ _ _ h
  exact PySem.W.callWith_K0 I.kIn c.kp (cal_run (ws := []) (zs := []) (s2 := s) c.ok hg hr I (c.b s [] I.kIn ln) .nil h)
/-- f(e, .., n = v, ..) and f(n = v, ..) -/
theorem pe_calK (c : Cal X.prog X.w X.K X.mg X.base k x ps f fd sp) (hb : KBinds X.K fd ps ks g gV) (hg : X.A.guards = some []) (hr : Room k X.A) (gl : Gl X x) (ha : PA X (e :: es) t) (hkw : PK X kws tk)
    (hall : (backToKw pos (keywordEach kws X.env)).all (·.1.isSome) = true := by rfl) (hks : (backToKw pos (keywordEach kws X.env)).filterMap (·.1) = ks := by rfl) (hdb : (x == ("__debug__" : Str)) = false := by decide)
    (he : starEach (e :: es) X.env = (false, eval e X.env) :: starEach es X.env := by rfl)
    (hpl : ((backTo pos (starEach (e :: es) X.env)).any (·.1) || (backToKw pos (keywordEach kws X.env)).any (·.1.isNone)) = false := by rfl) :
    PE X (.Call (.Name x p) (e :: es) kws pos) (tCalK sp gV t tk) := by
  refine ⟨fun pins s σ H Q I h => wpAny_Call_Name_kw (ld_glob I gl c.g ?_ hdb)⟩
  refine PySem.W.callWith_KW (h₀ := X.base) I.ok.mod.kin c.kp hall (thn (ha.run pos pins s σ H _ I h) fun us s1 ⟨vs, H1, I1, r, q⟩ => ?_) hpl he
  refine thn (hkw.run pos pins s1 σ H1 _ I1 q) fun ws s2 ⟨zs, H2, I2, rz, q2⟩ => ⟨I2.kIn, ?_⟩
  rw [hks]
  have r2 := hb.rel r rz
  exact cal_run (ws := []) (s2 := s2) c.ok hg hr I2 (hb.to s2 us ws I2.kIn (by rw [← r2.length]; exact c.ok.len _ _ _ _ q2)) r2 q2
theorem pe_calK0 (c : Cal X.prog X.w X.K X.mg X.base k x ps f fd sp) (hb : KBinds X.K fd ps ks g gV) (hg : X.A.guards = some []) (hr : Room k X.A) (gl : Gl X x) (hkw : PK X kws tk)
    (hall : (backToKw pos (keywordEach kws X.env)).all (·.1.isSome) = true := by rfl) (hks : (backToKw pos (keywordEach kws X.env)).filterMap (·.1) = ks := by rfl) (hdb : (x == ("__debug__" : Str)) = false := by decide)
    (hpl : ((backTo pos (starEach [] X.env)).any (·.1) || (backToKw pos (keywordEach kws X.env)).any (·.1.isNone)) = false := by rfl) :
    PE X (.Call (.Name x p) [] kws pos) (tCalK sp gV tNil tk) := by
  refine ⟨fun pins s σ H Q I h => wpAny_Call_Name_kw (ld_glob I gl c.g ?_ hdb)⟩
  refine PySem.W.callWith_KW0 (h₀ := X.base) I.ok.mod.kin c.kp hall (thn (hkw.run pos pins s σ H _ I h) fun ws s2 ⟨zs, H2, I2, rz, q2⟩ => ⟨I2.kIn, ?_⟩) hpl
  rw [hks]
  have r2 := hb.rel (vs := []) (us := []) .nil rz
  exact cal_run (ws := []) (s2 := s2) c.ok hg hr I2 (hb.to s2 [] ws I2.kIn (by rw [← r2.length]; exact c.ok.len _ _ _ _ q2)) r2 q2
end
/-! ### repr of data -/
theorem repr_flat {P : Program} {w : World} {A : Around} {E : Value → Shared → Prop} {s : Shared} {u : Value} {d : PyData} {as : List Addr} {Q : Value → Shared → Prop} (r : Reads s.heap u d as) (sh : d.showable = true) (nd : d.hasDict = false) (hg : A.guards = some []) (hu : A.units + (d.depth + 1) < cLine) (sz : d.shown.length ≤ sizeLine)
    (hQ : ∀ h' t tk, (∀ b o, s.heap.get? b = some o → h'.get? b = some o) → Q (.str d.shown t) { s with heap := h', toks := tk }) : wpAny (model P w) A (call (.builtin "repr") [u]) Q E s := by
  have no : ∀ b o, s.heap.get? b = some o → s.heap.get? b = some o := fun _ _ e => e
  cases r with
  | none => exact _root_.PySem.P.repr_of_none (hQ s.heap s.toks (s.toks + 1) no)
  | bool b =>
    refine _root_.PySem.P.repr_of_bool ?_
    cases b
    · exact hQ s.heap s.toks (s.toks + 1) no
    · exact hQ s.heap s.toks (s.toks + 1) no
  | int i t => exact _root_.PySem.P.repr_of_int (of_decide_eq_true sh) (hQ s.heap s.toks (s.toks + 1) no)
  | str x t => exact _root_.PySem.P.repr_of_str (hQ s.heap s.toks (s.toks + 1) no) sz
  | list a b c d => exact PySem.repr_of_reads' (.list a b c d) sh (fun z => by rw [nd] at z; cases z) hg hu no (fun h' t tk z => hQ h' t tk z) sz
  | tuple a b c d => exact PySem.repr_of_reads' (.tuple a b c d) sh (fun z => by rw [nd] at z; cases z) hg hu no (fun h' t tk z => hQ h' t tk z) sz
  | dict a b c d e => cases nd
section
variable {X : Cx} {k : Nat}
/-- repr(x), x data without dicts -/
theorem call_reprD (hg : X.A.guards = some []) (hr : Room k X.A) : CallR X (.builtin "repr") (fun xs H Q => ∃ x d, xs = [x] ∧ Dp X.K H x d ∧ d.showable = true ∧ d.hasDict = false ∧ d.depth ≤ 64 ∧ d.shown.length ≤ sizeLine ∧ Q (.str d.shown) H) := by
  intro pins s σ H xs us Q I r h
  obtain ⟨x, d, rfl, dp, sh, nd, de, sz, q⟩ := h
  obtain ⟨u, rfl, ru⟩ := r.one
  obtain ⟨as, rd⟩ := Dp.reads I d x u dp ru
  have un := hr.un
  exact repr_flat rd sh nd hg (by omega) sz fun h' t tk keep => ⟨.str _, H, I.kept keep, ⟨_, rfl⟩, q⟩
end
def rRepr (K : PySem.W.Frag) : List V → Hp → VK → Prop := fun xs H Q => ∃ x d, xs = [x] ∧ Dp K H x d ∧ d.showable = true ∧ d.hasDict = false ∧ d.depth ≤ 64 ∧ d.shown.length ≤ sizeLine ∧ Q (.str d.shown) H
theorem call_reprDK {X : Cx} {K : PySem.W.Frag} {k : Nat} (h : X.K = K) (hg : X.A.guards = some []) (hr : Room k X.A) : CallR X (.builtin "repr") (rRepr K) := h ▸ call_reprD hg hr
/-! ### the end: the law's promise where the claim's caller calls it -/
theorem end_call {P : Program} {w : World} {K : PySem.W.Frag} {mg mb : Str → Option Value} {k : Nat} {fa a : Addr} {fd : FuncData} {x : Str} {sp : Sp} {s : Shared} {vs : List Value} {ns : List Int}
    (kin : K.In s.heap) (glob : s.heap.Ns mainGlobals mg) (blt : s.heap.Ns builtinsNs mb) (same : ∀ x : Str, x ≠ "__name__" → mb x = bootBuiltins x) (lim : s.heap.NoLimit) (gens : s.gens = #[])
    (obj : s.heap.get? a = some { cls := .type "list", data := .seq vs.toArray }) (numb : IntsAre vs ns) (short : ns.length ≤ sizeLine) (room : Room k callerA)
    (F : ∀ base : Heap, K.In base → base.Ns mainGlobals mg → FnG P w K mg base k fa fd [x] sp) (bind : ∀ (s : Shared) (u : Value), BindsTo s fd ⟨[u], []⟩ [(x, u)])
    (want : ∀ H : Hp, Only H → SqL K H a (ns.map V.int) → sp [.ref a] H (fun v _ => v = .bl true) fun _ _ _ => False) :
    codeAny (model P w) callerA (.call (.ref fa) ⟨[.ref a], []⟩) (fun r s' => r = .ok (.ret (.bool true)) ∧ OldK s.heap s'.heap ∧ s'.os = s.os ∧ AllBare s'.gens) s := by
  have vals := vals_ints numb
  -- one step: whatever part H of the script's object is tracked
  have go : ∀ H : Hp, Only H → SqL K H a (ns.map V.int) → HOk P w H s.heap → (∀ b, H b ≠ none → b = a ∧ K.lookup a = none) →
      codeAny (model P w) callerA (.call (.ref fa) ⟨[.ref a], []⟩) (fun r s' => r = .ok (.ret (.bool true)) ∧ OldK s.heap s'.heap ∧ s'.os = s.os ∧ AllBare s'.gens) s := by
    intro H only sq hok at1
    have untracked : ∀ {b : Addr} {o : Obj} {es : Array DictEntry} {n : Nat}, s.heap.get? b = some o → o.data = .dict es n → H b = none := fun {b o es n} e d => by
      by_cases z : H b = none
      · exact z
      · have e2 := (at1 b z).1
        subst e2
        rw [obj] at e
        cases e
        cases d
    have names : ∀ {b : Addr} {m : Str → Option Value}, s.heap.Ns b m → (hidT s.heap H).Ns b m := fun {b m} ⟨o, es, n, e, d, r⟩ => ⟨o, es, n, hidT_get e (untracked e d), d, r⟩
    have kin2 : K.In (hidT s.heap H) := fun b o e => by
      refine hidT_get (kin b o e) ?_
      by_cases z : H b = none
      · exact z
      · obtain ⟨z1, z2⟩ := at1 b z
        rw [z1, z2] at e
        cases e
    obtain ⟨mc, l1, l2⟩ := lim
    have env : Env0 P w K mg (hidT s.heap H) callerA [] s H :=
      ⟨rfl, ⟨kin2, names glob, ⟨mb, names blt, same⟩, ⟨mc, names l1, l2⟩⟩, fun b o e => of_hidT e, Nat.le_of_eq (hidT_size _ _), trivial, fun b m => absurd (show b ∈ ([] : List Addr) from m) List.not_mem_nil, hok, AllBare.of_eq gens⟩
    refine codeAny_mono ((F _ kin2 (names glob)).run callerA [] s H ⟨[.ref a], []⟩ [.ref a] [.ref a] _ _ rfl room env (bind s (.ref a)) (.cons rfl .nil) (want H only sq)) fun r s' z => ?_
    match r, z with
    | .error _, z => exact z.elim
    | .ok .next, z => exact z.elim
    | .ok .brk, z => exact z.elim
    | .ok .cont, z => exact z.elim
    | .ok (.ret u), ⟨v, H', os, bare, un, hok2, rv, q⟩ =>
      have q : v = .bl true := q
      subst q
      obtain rfl : u = Value.bool true := rv
      refine ⟨rfl, OldK.of_keep fun b o e => ?_, os, bare⟩
      by_cases z : H b = none
      · exact un.keep b o e z (fun m => absurd (show b ∈ ([] : List Addr) from m) List.not_mem_nil) List.not_mem_nil
      · rcases only b with y | ⟨ob, xs, y⟩
        · exact absurd y z
        · have e1 := (hok b _ y).1
          have e2 := (hok2 b _ (un.frzs b ob _ y)).1
          rw [e] at e1
          cases e1
          exact e2
  by_cases hk : K.lookup a = none
  · refine go (fun b => if b = a then some (.frz { cls := .type "list", data := .seq vs.toArray } (.lst (ns.map V.int))) else none) (fun b => ?_) (.inl (.inr ⟨_, if_pos rfl⟩)) (fun b u e => ?_) (fun b e => ?_)
    · by_cases y : b = a
      · exact .inr ⟨_, _, if_pos y⟩
      · exact .inl (if_neg y)
    · by_cases y : b = a
      · cases (if_pos y).symm.trans e
        subst y
        exact ⟨obj, by rw [List.length_map]; exact short, vs, _, vals, obj⟩
      · cases (if_neg y).symm.trans e
    · by_cases y : b = a
      · exact ⟨y, hk⟩
      · exact absurd (if_neg y) e
  · obtain ⟨o, ho⟩ := Option.ne_none_iff_exists'.mp hk
    have e := kin a o ho
    rw [obj] at e
    cases e
    refine go (fun _ => none) (fun _ => .inl rfl) (.inr ⟨_, vs.toArray, _, ho, rfl, rfl, rfl, ?_, vals⟩) (fun b u e => by cases e) (fun b e => absurd rfl e)
    rw [List.size_toArray, numb.length]
    exact short
theorem walk_G {l : PySem.W.OpenLaw} {n k : Nat} {q : Program} {loose : List Str} {XP : (Str → Option Value) → Heap → Prop} {YP : World → Heap → Prop} {d : DefRec} {K : Params → PySem.W.Frag} {sp : PySem.W.Frag → Sp} {x : Str}
    (hn : l.most = some n) (hn2 : n ≤ sizeLine) (hdf : d.params.defaults = []) (hr : Room k callerA) (hY : ∀ (w : World) (h : Heap), YP w h → (K w.params).In h)
    (F : ∀ (w : World) (mg : Str → Option Value) (fa : Addr) (h : Heap), (K w.params).In h → h.Ns mainGlobals mg → mg d.name = some (.ref fa) →
      ∃ fd : FuncData, (∀ (s : Shared) (u : Value), BindsTo s fd ⟨[u], []⟩ [(x, u)]) ∧ ∀ base : Heap, (K w.params).In base → base.Ns mainGlobals mg → FnG l.prog w (K w.params) mg base k fa fd [x] (sp (K w.params)))
    (want : ∀ (K : PySem.W.Frag) (H : Hp) (a : Addr) (ns : List Int), ns.length ≤ n → Only H → SqL K H a (ns.map V.int) → sp K [.ref a] H (fun v _ => v = .bl true) fun _ _ _ => False) :
    PySem.W.WalkO q loose XP YP l.row.toRowW d [] (fun f vs => PySem.call f vs) := by
  refine Att.attach_call hn hdf fun w s0 s mg mb fa o pm cd doc a vs ns G Y _ _ _ hmg obj numb short gens => ?_
  have kin := hY w _ Y
  obtain ⟨fd, bind, ok⟩ := F w mg fa _ kin G.T.g hmg
  exact end_call kin G.T.g G.T.b G.T.builtins G.T.nolimit gens obj numb (Nat.le_trans short hn2) hr ok bind fun H o sq => want _ H a ns short o sq
end Lj
set_option Elab.async false
set_option linter.all false
set_option maxRecDepth 100000
namespace Lj
open PySem PySem.Spec PyProof.Rows L2
/-- the built-ins are not hidden by names of the module -/
structure Bl (mg : Str → Option Value) : Prop where
  len_ : mg "len" = none
  abs_ : mg "abs" = none
  int_ : mg "int" = none
  range_ : mg "range" = none
  max_ : mg "max" = none
  min_ : mg "min" = none
  all_ : mg "all" = none
  sum_ : mg "sum" = none
  list_ : mg "list" = none
  tuple_ : mg "tuple" = none
  isinstance_ : mg "isinstance" = none
  bool_ : mg "bool" = none
  repr_ : mg "repr" = none
  enumerate_ : mg "enumerate" = none
  zip_ : mg "zip" = none
  divmod_ : mg "divmod" = none
theorem Has.none {P : Program} {w : World} {K : PySem.W.Frag} {mg : Str → Option Value} {base : Heap} {k : Nat} {x : Str} {ps : List Str} {sp : Sp} {st : Stmt} (F : At K mg x st ps) (no : ∀ vs H Q E, ¬ sp vs H Q E) : Has P w K mg base k x ps sp := by
  obtain ⟨f, fd, F, b, g⟩ := F
  exact ⟨f, fd, ⟨fun vs H Q E h => absurd h (no vs H Q E), fun A out s H as us vs Q E _ _ _ _ _ h => absurd h (no vs H Q E)⟩, F.kp, b, g, fun_lk F⟩
/-! ### trees: instructions -/
inductive Tr where
  | op (w : Str) (as : List Int)
  | loop (k : Int) (b : List Tr)
mutual
def Tr.len : Tr → Int
  | .op _ _ => 1
  | .loop k b => k * lens b
def lens : List Tr → Int
  | [] => 0
  | t :: r => t.len + lens r
end
mutual
def Tr.inn : Tr → Int
  | .op _ _ => 0
  | .loop _ b => (b.length : Int) + inns b
def inns : List Tr → Int
  | [] => 0
  | t :: r => t.inn + inns r
end
def szs (b : List Tr) : Int := (b.length : Int) + inns b
mutual
def Tr.dep : Tr → Int
  | .op _ _ => 0
  | .loop _ b => 1 + deps b
def deps : List Tr → Int
  | [] => 0
  | t :: r => if t.dep > deps r then t.dep else deps r
end
mutual
def Tr.cnt (w : Str) : Tr → Int
  | .op u _ => if u = w then 1 else 0
  | .loop k b => k * cnts w b
def cnts (w : Str) : List Tr → Int
  | [] => 0
  | t :: r => t.cnt w + cnts w r
end
mutual
/-- what is executed, one after another -/
def Tr.ex : Tr → List Tr
  | .op w as => [.op w as]
  | .loop k b => (List.replicate k.toNat (exs b)).flatten
def exs : List Tr → List Tr
  | [] => []
  | t :: r => t.ex ++ exs r
end
mutual
/-- loops at most n deep, the words of the others not loop -/
def Tr.wf : Tr → Nat → Prop
  | .op w _, _ => w ≠ "loop"
  | .loop _ _, 0 => False
  | .loop k b, n + 1 => 0 ≤ k ∧ k ≤ 10 ^ 18 ∧ b.length ≤ 1000 ∧ wfs b n
def wfs : List Tr → Nat → Prop
  | [], _ => True
  | t :: r, n => t.wf n ∧ wfs r n
end
/-- a body for functions that may go n - 1 loops down -/
def okB : Nat → List Tr → Prop
  | 0, _ => False
  | n + 1, b => wfs b n ∧ b.length ≤ 1000
theorem lens_map : ∀ b : List Tr, lens b = (b.map Tr.len).sum
  | [] => rfl
  | t :: r => by rw [lens, lens_map r, List.map_cons, List.sum_cons]
theorem inns_map : ∀ b : List Tr, inns b = (b.map Tr.inn).sum
  | [] => rfl
  | t :: r => by rw [inns, inns_map r, List.map_cons, List.sum_cons]
theorem cnts_map (w : Str) : ∀ b : List Tr, cnts w b = (b.map (Tr.cnt w)).sum
  | [] => rfl
  | t :: r => by rw [cnts, cnts_map w r, List.map_cons, List.sum_cons]
theorem exs_map : ∀ b : List Tr, exs b = (b.map Tr.ex).flatten
  | [] => rfl
  | t :: r => by rw [exs, exs_map r, List.map_cons, List.flatten_cons]
theorem wfs_get : ∀ {b : List Tr} {n i : Nat} {t : Tr}, wfs b n → b[i]? = some t → t.wf n
  | [], _, _, _, _, e => by simp at e
  | t :: r, n, 0, u, h, e => by
    cases e
    rw [wfs] at h
    exact h.1
  | t :: r, n, i + 1, u, h, e => by
    rw [wfs] at h
    exact wfs_get (i := i) h.2 e
theorem wfs_all : ∀ {b : List Tr} {n : Nat}, (∀ t ∈ b, t.wf n) → wfs b n
  | [], _, _ => by rw [wfs]; trivial
  | t :: r, n, h => by
    rw [wfs]
    exact ⟨h t List.mem_cons_self, wfs_all fun u m => h u (List.mem_cons_of_mem _ m)⟩
theorem okB_loop {b b' : List Tr} {n i : Nat} {k : Int} (h : okB (n + 1) b) (e : b[i]? = some (.loop k b')) : 0 ≤ k ∧ k ≤ 10 ^ 18 ∧ okB n b' := by
  have z := wfs_get h.1 e
  cases n with
  | zero => rw [Tr.wf] at z; exact z.elim
  | succ m =>
    rw [Tr.wf] at z
    exact ⟨z.1, z.2.1, z.2.2.2, z.2.2.1⟩
theorem okB_op {b : List Tr} {n i : Nat} {w : Str} {as : List Int} (h : okB (n + 1) b) (e : b[i]? = some (.op w as)) : w ≠ "loop" := by
  have z := wfs_get h.1 e
  rw [Tr.wf] at z
  exact z
theorem at0 {x : V} {xs : List V} : atI (x :: xs) 0 = some x := atI_nat (j := 0) rfl
theorem sum_next {f : Tr → Int} {b : List Tr} {i : Nat} {t : Tr} (e : b[i]? = some t) : ((b.take (i + 1)).map f).sum = ((b.take i).map f).sum + f t := by
  rw [List.take_add_one, e, List.map_append, List.sum_append]
  show _ + (f t + 0) = _
  rw [Int.add_zero]
theorem map_next {α : Type} {f : Tr → α} {b : List Tr} {i : Nat} {t : Tr} (e : b[i]? = some t) : (b.take (i + 1)).map f = (b.take i).map f ++ [f t] := by
  rw [List.take_add_one, e, List.map_append]
  rfl
/-! ### trees in the heap -/
def Kt (H H' : Hp) : Prop := ∀ a xs, Rd H a (.tup xs) → Rd H' a (.tup xs)
theorem Kt.refl (H : Hp) : Kt H H := fun _ _ h => h
theorem Kt.trans {H H1 H2 : Hp} (a : Kt H H1) (b : Kt H1 H2) : Kt H H2 := fun c o h => b c o (a c o h)
theorem Kt.same {H H' : Hp} (s : Same H H') : Kt H H' := fun a xs h => by
  rcases h with h | ⟨o, h⟩
  · exact .inl (s _ _ h)
  · exact .inr ⟨o, s _ _ h⟩
theorem Kt.but {p : Addr} {H H' : Hp} {xs : List V} (b : But p H H') (e : H p = some (.lst xs)) : Kt H H' := fun a ys h => by
  refine b.rd (fun z => ?_) h
  subst z
  rcases h with h | ⟨o, h⟩
  · rw [e] at h; cases h
  · rw [e] at h; cases h
theorem Urn.kt {p : Addr} {H H' : Hp} (u : Urn H p) (b : But p H H') : Kt H H' := by
  obtain ⟨_, _, e, _⟩ := u
  exact Kt.but b e
theorem Kt.sq {K : PySem.W.Frag} {H H' : Hp} {a : Addr} {xs : List V} (k : Kt H H') (h : SqT K H a xs) : SqT K H' a xs := by
  rcases h with h | h
  · exact .inl (k _ _ h)
  · exact .inr h
mutual
def TrAt (K : PySem.W.Frag) (H : Hp) : Tr → V → Prop
  | .op w as, v => ∃ a, v = .ref a ∧ SqT K H a (.str w :: as.map V.int)
  | .loop k b, v => ∃ a c vs, v = .ref a ∧ SqT K H a [.str "loop", .int k, .ref c] ∧ SqT K H c vs ∧ TrsAt K H b vs
def TrsAt (K : PySem.W.Frag) (H : Hp) : List Tr → List V → Prop
  | [], vs => vs = []
  | t :: r, vs => ∃ v us, vs = v :: us ∧ TrAt K H t v ∧ TrsAt K H r us
end
def BodyAt (K : PySem.W.Frag) (H : Hp) (b : List Tr) (v : V) : Prop := ∃ c vs, v = .ref c ∧ SqT K H c vs ∧ TrsAt K H b vs
mutual
theorem TrAt.kt {K : PySem.W.Frag} {H H' : Hp} (k : Kt H H') : ∀ (t : Tr) (v : V), TrAt K H t v → TrAt K H' t v
  | .op w as, v, h => by
    rw [TrAt] at h ⊢
    obtain ⟨a, e, s⟩ := h
    exact ⟨a, e, k.sq s⟩
  | .loop n b, v, h => by
    rw [TrAt] at h ⊢
    obtain ⟨a, c, vs, e, s, s2, r⟩ := h
    exact ⟨a, c, vs, e, k.sq s, k.sq s2, TrsAt.kt k b vs r⟩
theorem TrsAt.kt {K : PySem.W.Frag} {H H' : Hp} (k : Kt H H') : ∀ (b : List Tr) (vs : List V), TrsAt K H b vs → TrsAt K H' b vs
  | [], vs, h => by
    rw [TrsAt] at h ⊢
    exact h
  | t :: r, vs, h => by
    rw [TrsAt] at h ⊢
    obtain ⟨v, us, e, a, b⟩ := h
    exact ⟨v, us, e, TrAt.kt k t v a, TrsAt.kt k r us b⟩
end
theorem BodyAt.kt {K : PySem.W.Frag} {H H' : Hp} {b : List Tr} {v : V} (k : Kt H H') (h : BodyAt K H b v) : BodyAt K H' b v := by
  obtain ⟨c, vs, e, s, r⟩ := h
  exact ⟨c, vs, e, k.sq s, TrsAt.kt k b vs r⟩
theorem TrsAt.length {K : PySem.W.Frag} {H : Hp} : ∀ {b : List Tr} {vs : List V}, TrsAt K H b vs → vs.length = b.length
  | [], vs, h => by
    rw [TrsAt] at h
    rw [h]
    rfl
  | t :: r, vs, h => by
    rw [TrsAt] at h
    obtain ⟨v, us, rfl, _, k⟩ := h
    rw [List.length_cons, List.length_cons, TrsAt.length k]
theorem TrsAt.get {K : PySem.W.Frag} {H : Hp} : ∀ {b : List Tr} {vs : List V} {i : Nat} {v : V}, TrsAt K H b vs → vs[i]? = some v → ∃ t, b[i]? = some t ∧ TrAt K H t v
  | [], vs, i, v, h, e => by
    rw [TrsAt] at h
    rw [h] at e
    simp at e
  | t :: r, vs, 0, v, h, e => by
    rw [TrsAt] at h
    obtain ⟨v', us, rfl, a, _⟩ := h
    cases e
    exact ⟨t, rfl, a⟩
  | t :: r, vs, i + 1, v, h, e => by
    rw [TrsAt] at h
    obtain ⟨v', us, rfl, _, k⟩ := h
    exact TrsAt.get (i := i) k e
theorem TrsAt.append {K : PySem.W.Frag} {H : Hp} : ∀ {b c : List Tr} {vs us : List V}, TrsAt K H b vs → TrsAt K H c us → TrsAt K H (b ++ c) (vs ++ us)
  | [], c, vs, us, h, k => by
    rw [TrsAt] at h
    rw [h]
    exact k
  | t :: r, c, vs, us, h, k => by
    rw [TrsAt] at h
    obtain ⟨v, ws, rfl, a, l⟩ := h
    show TrsAt K H (t :: (r ++ c)) (v :: (ws ++ us))
    rw [TrsAt]
    exact ⟨v, _, rfl, a, TrsAt.append l k⟩
theorem TrsAt.one {K : PySem.W.Frag} {H : Hp} {t : Tr} {v : V} (h : TrAt K H t v) : TrsAt K H [t] [v] := by
  rw [TrsAt]
  exact ⟨v, [], rfl, h, by rw [TrsAt]⟩
theorem TrsAt.nil {K : PySem.W.Frag} {H : Hp} : TrsAt K H [] [] := by rw [TrsAt]
/-! ### promises about trees -/
def spTI (K : PySem.W.Frag) (ok : List Tr → Prop) (f : List Tr → Int) : Sp := fun vs H Q _ => ∃ v b, vs = [v] ∧ BodyAt K H b v ∧ ok b ∧ ∀ H', Same H H' → Q (.int (f b)) H'
def spII (K : PySem.W.Frag) (ok : Tr → Prop) (f : Tr → Int) : Sp := fun vs H Q _ => ∃ v t, vs = [v] ∧ TrAt K H t v ∧ ok t ∧ ∀ H', Same H H' → Q (.int (f t)) H'
def spWI (K : PySem.W.Frag) (ok : List Tr → Prop) : Sp := fun vs H Q _ => ∃ v b w, vs = [v, .str w] ∧ BodyAt K H b v ∧ ok b ∧ w ≠ "loop" ∧ ∀ H', Same H H' → Q (.int (cnts w b)) H'
theorem same_upd {H H' : Hp} {D : Addr} {o : HO} (s : Same H H') (n : H D = none) : Same H (upd H' D o) := fun b x e => by
  rw [upd_ne (ne_of_none e n)]
  exact s _ _ e
end Lj
namespace Lj
mutual
theorem Tr.dep_nn : ∀ t : Tr, 0 ≤ t.dep
  | .op _ _ => by rw [Tr.dep]; decide
  | .loop _ b => by
    rw [Tr.dep]
    have := deps_nn b
    omega
theorem deps_nn : ∀ b : List Tr, 0 ≤ deps b
  | [] => by rw [deps]; decide
  | t :: r => by
    rw [deps]
    have h1 := Tr.dep_nn t
    have h2 := deps_nn r
    split <;> omega
end
end Lj
set_option Elab.async false
set_option linter.all false
set_option maxRecDepth 100000
namespace Lj
open PySem PySem.Spec PyProof.Rows L2
def prs : List Int := [2, 2, 3, 3, 5, 7, 7, 11, 13, 97, 251, 9973, 10007]
theorem prs_bd {q : Int} (h : q ∈ prs) : 2 ≤ q ∧ q ≤ 10007 := by
  have z : (prs.all fun q => decide (2 ≤ q) && decide (q ≤ 10007)) = true := by decide
  have k := List.all_eq_true.mp z q h
  rw [Bool.and_eq_true] at k
  exact ⟨of_decide_eq_true k.1, of_decide_eq_true k.2⟩
def spPrimeU : Sp := fun vs H Q _ => ∃ p : Addr, vs = [.ref p] ∧ Urn H p ∧ ∀ (q : Int) H', q ∈ prs → Urn H' p → But p H H' → Q (.int q) H'
theorem wide_big {n : Int} (h : n ≤ 10 ^ 40) (h0 : 0 ≤ n) : n.natAbs < wide := by
  have z : (10 ^ 40 : Nat) < wide := by decide +kernel
  omega
/-! ### list.count of texts -/
def eqs (z : Str) (v : Value) : Bool := match v with
  | .str y _ => y == z
  | _ => false
theorem count_strs {z : Str} : ∀ {us : List Value} {ss : List Str}, Vals (ss.map V.str) us → us.countP (eqs z) = ss.count z
  | _, [], .nil => rfl
  | _, s :: ss, .cons ⟨t, rfl⟩ r => by
    rw [List.countP_cons, count_strs r, List.count_cons]
    rfl
theorem mem_strs : ∀ {us : List Value} {ss : List Str} {u : Value}, Vals (ss.map V.str) us → u ∈ us → ∃ s t, u = .str s t
  | _, [], _, .nil, m => by cases m
  | _, s :: ss, u, .cons ⟨t, rfl⟩ r, m => by
    rcases List.mem_cons.mp m with rfl | m
    · exact ⟨s, t, rfl⟩
    · exact mem_strs r m
theorem mt_count_str {X : Cx} : MtR X "list.count" (fun x xs H Q => ∃ (p : Addr) (ss : List Str) (z : Str), x = .ref p ∧ xs = [.str z] ∧ SqL X.K H p (ss.map V.str) ∧ Q (.int (ss.count z : Nat)) H) := by
  intro pins s σ H x xs v us Q I rx rxs h
  obtain ⟨p, ss, z, rfl, rfl, sq, q⟩ := h
  cases rx
  obtain ⟨u, rfl, ⟨t, rfl⟩⟩ := rxs.one
  obtain ⟨its, rv, ⟨⟨cls, dd, data, sl⟩, n, ho, hc, hdn, hd⟩, hlen⟩ := I.list sq
  simp only at hc hd
  subst hc hd
  refine call_meets PySem.F.slot_list_count ⟨_, ho, rfl⟩ PySem.F.entry_list_count (PySem.F.args_list_count_2 _ _) (SeqAt.list_countAt p its.toArray n dd sl (.str z t) (eqs z)) ⟨ho, fun y hy => ?_, ?_⟩
  · obtain ⟨a, b, rfl⟩ := mem_strs rv (by simpa using hy)
    exact eqAt_V (y := .str a) (x := .str z) ⟨b, rfl⟩ ⟨t, rfl⟩ rfl rfl
  · refine ⟨.int (ss.count z : Nat), H, I.tok _, ⟨s.toks, ?_⟩, q⟩
    rw [← count_strs rv]
/-! ### instructions as the laws draw them -/
def W7 : List Str := ["set", "copy", "add", "scale", "swap", "read", "write"]
theorem W7_noloop {w : Str} (h : w ∈ W7) : w ≠ "loop" := by
  have z : (W7.all fun w => !(w == ("loop" : Str))) = true := by decide
  have k := List.all_eq_true.mp z w h
  intro e
  subst e
  revert k
  decide
theorem W7_ok {w : Str} (h : w ∈ W7) : PyData.strOk w = true := by
  have z : (W7.all fun w => PyData.strOk w) = true := by decide +kernel
  exact List.all_eq_true.mp z w h
def GoodOp (p n : Int) (w : Str) (as : List Int) : Prop :=
  ((w = "set" ∨ w = "scale") ∧ ∃ x c, as = [x, c] ∧ 0 ≤ x ∧ x < n ∧ 0 ≤ c ∧ c < p) ∨
  ((w = "read" ∨ w = "write") ∧ ∃ x, as = [x] ∧ 0 ≤ x ∧ x < n) ∨
  ((w = "copy" ∨ w = "swap") ∧ ∃ x y, as = [x, y] ∧ 0 ≤ x ∧ x < n ∧ 0 ≤ y ∧ y < n ∧ x ≠ y) ∨
  (w = "add" ∧ ∃ x y c, as = [x, y, c] ∧ 0 ≤ x ∧ x < n ∧ 0 ≤ y ∧ y < n ∧ x ≠ y ∧ 1 ≤ c ∧ c < p)
theorem GoodOp.w7 {p n : Int} {w : Str} {as : List Int} (h : GoodOp p n w as) : w ∈ W7 := by
  rcases h with ⟨rfl | rfl, _⟩ | ⟨rfl | rfl, _⟩ | ⟨rfl | rfl, _⟩ | ⟨rfl, _⟩ <;> decide
mutual
/-- drawn: at most l instructions, loops at most d deep, half as many within; G: of the others, R: of the rounds -/
def Tr.made (G : Str → List Int → Prop) (R : Int → Prop) : Tr → Nat → Nat → Prop
  | .op w as, _, _ => G w as
  | .loop _ _, _, 0 => False
  | .loop k b, l, d + 1 => R k ∧ b.length ≤ l / 2 ∧ mades G R b (l / 2) d
def mades (G : Str → List Int → Prop) (R : Int → Prop) : List Tr → Nat → Nat → Prop
  | [], _, _ => True
  | t :: r, l, d => t.made G R l d ∧ mades G R r l d
end
theorem mades_append {G : Str → List Int → Prop} {R : Int → Prop} : ∀ {b c : List Tr} {l d : Nat}, mades G R b l d → mades G R c l d → mades G R (b ++ c) l d
  | [], _, _, _, _, k => k
  | t :: r, c, l, d, h, k => by
    rw [mades] at h
    show mades G R (t :: (r ++ c)) l d
    rw [mades]
    exact ⟨h.1, mades_append h.2 k⟩
theorem mades_one {G : Str → List Int → Prop} {R : Int → Prop} {t : Tr} {l d : Nat} (h : t.made G R l d) : mades G R [t] l d := by
  rw [mades, mades]
  exact ⟨h, trivial⟩
theorem mades_nil {G : Str → List Int → Prop} {R : Int → Prop} {l d : Nat} : mades G R [] l d := by
  rw [mades]
  trivial
mutual
theorem Tr.made_wf {G : Str → List Int → Prop} {R : Int → Prop} (hG : ∀ w as, G w as → w ∈ W7) (hR : ∀ k, R k → 0 ≤ k ∧ k ≤ 10 ^ 18) : ∀ (t : Tr) (l d : Nat), l ≤ 1000 → t.made G R l d → t.wf d
  | .op w as, l, d, _, h => by
    rw [Tr.made] at h
    rw [Tr.wf]
    exact W7_noloop (hG w as h)
  | .loop k b, l, 0, _, h => by
    rw [Tr.made] at h
    exact h.elim
  | .loop k b, l, d + 1, hl, h => by
    rw [Tr.made] at h
    rw [Tr.wf]
    exact ⟨(hR k h.1).1, (hR k h.1).2, by omega, mades_wf hG hR b (l / 2) d (by omega) h.2.2⟩
theorem mades_wf {G : Str → List Int → Prop} {R : Int → Prop} (hG : ∀ w as, G w as → w ∈ W7) (hR : ∀ k, R k → 0 ≤ k ∧ k ≤ 10 ^ 18) : ∀ (b : List Tr) (l d : Nat), l ≤ 1000 → mades G R b l d → wfs b d
  | [], _, _, _, _ => by rw [wfs]; trivial
  | t :: r, l, d, hl, h => by
    rw [mades] at h
    rw [wfs]
    exact ⟨Tr.made_wf hG hR t l d hl h.1, mades_wf hG hR r l d hl h.2⟩
end
/-- the most steps that such a body executes, loops of at most 3 rounds -/
def most : Nat → Nat → Nat
  | 0, _ => 1
  | d + 1, l => max 1 (3 * ((l / 2) * most d (l / 2)))
mutual
theorem Tr.made_ex {G : Str → List Int → Prop} {R : Int → Prop} (hR : ∀ k, R k → 0 ≤ k ∧ k ≤ 3) : ∀ (t : Tr) (l d : Nat), t.made G R l d → t.ex.length ≤ most d l
  | .op w as, l, 0, h => by rw [Tr.ex, most]; exact Nat.le_refl 1
  | .op w as, l, d + 1, h => by rw [Tr.ex, most]; exact Nat.le_max_left _ _
  | .loop k b, l, 0, h => by
    rw [Tr.made] at h
    exact h.elim
  | .loop k b, l, d + 1, h => by
    rw [Tr.made] at h
    have ih := mades_ex hR b (l / 2) d h.2.2
    have hk := hR k h.1
    rw [Tr.ex, most, List.length_flatten, List.map_replicate, List.sum_replicate_nat]
    refine Nat.le_trans ?_ (Nat.le_max_right _ _)
    have h1 : (exs b).length ≤ l / 2 * most d (l / 2) := Nat.le_trans ih (Nat.mul_le_mul_right _ h.2.1)
    exact Nat.mul_le_mul (by omega) h1
theorem mades_ex {G : Str → List Int → Prop} {R : Int → Prop} (hR : ∀ k, R k → 0 ≤ k ∧ k ≤ 3) : ∀ (b : List Tr) (l d : Nat), mades G R b l d → (exs b).length ≤ b.length * most d l
  | [], _, _, _ => by rw [exs]; exact Nat.zero_le _
  | t :: r, l, d, h => by
    rw [mades] at h
    have h1 := Tr.made_ex hR t l d h.1
    have h2 := mades_ex hR r l d h.2
    rw [exs, List.length_append, List.length_cons, Nat.succ_mul]
    omega
end
/-! ### what is executed: numbers -/
theorem flat_len {α : Type} (n : Nat) (xs : List α) : ((List.replicate n xs).flatten).length = n * xs.length := by
  rw [List.length_flatten, List.map_replicate, List.sum_replicate_nat]
mutual
theorem Tr.ex_len : ∀ (t : Tr) (d : Nat), t.wf d → (t.ex.length : Int) = t.len
  | .op w as, _, _ => by rw [Tr.ex, Tr.len]; rfl
  | .loop k b, 0, h => by rw [Tr.wf] at h; exact h.elim
  | .loop k b, d + 1, h => by
    rw [Tr.wf] at h
    have ih := exs_len b d h.2.2.2
    rw [Tr.ex, Tr.len, flat_len, ← ih, Int.natCast_mul]
    congr 1
    omega
theorem exs_len : ∀ (b : List Tr) (d : Nat), wfs b d → ((exs b).length : Int) = lens b
  | [], _, _ => by rw [exs, lens]; rfl
  | t :: r, d, h => by
    rw [wfs] at h
    rw [exs, lens, List.length_append, Int.natCast_add, Tr.ex_len t d h.1, exs_len r d h.2]
end
/-- the word of an instruction -/
def Tr.word : Tr → Str
  | .op w _ => w
  | .loop _ _ => "loop"
theorem count_flat (z : Str) (xs : List Tr) : ∀ n : Nat, (((List.replicate n xs).flatten).map Tr.word).count z = n * (xs.map Tr.word).count z
  | 0 => by simp
  | n + 1 => by rw [List.replicate_succ, List.flatten_cons, List.map_append, List.count_append, count_flat z xs n, Nat.succ_mul, Nat.add_comm]
mutual
theorem Tr.ex_cnt (z : Str) : ∀ (t : Tr) (d : Nat), t.wf d → (((t.ex.map Tr.word).count z : Nat) : Int) = t.cnt z
  | .op w as, _, _ => by
    rw [Tr.ex, Tr.cnt]
    show (([w].count z : Nat) : Int) = _
    rw [List.count_singleton]
    by_cases e : w = z
    · rw [if_pos e, if_pos (beq_iff_eq.mpr e)]
      rfl
    · rw [if_neg e, if_neg (fun h => e (beq_iff_eq.mp h))]
      rfl
  | .loop k b, 0, h => by rw [Tr.wf] at h; exact h.elim
  | .loop k b, d + 1, h => by
    rw [Tr.wf] at h
    have ih := exs_cnt z b d h.2.2.2
    rw [Tr.ex, Tr.cnt, count_flat, ← ih, Int.natCast_mul]
    congr 1
    omega
theorem exs_cnt (z : Str) : ∀ (b : List Tr) (d : Nat), wfs b d → ((((exs b).map Tr.word).count z : Nat) : Int) = cnts z b
  | [], _, _ => by rw [exs, cnts]; rfl
  | t :: r, d, h => by
    rw [wfs] at h
    rw [exs, cnts, List.map_append, List.count_append, Int.natCast_add, Tr.ex_cnt z t d h.1, exs_cnt z r d h.2]
end
/-- all are no loops -/
def Ops (b : List Tr) : Prop := ∀ t ∈ b, ∃ w as, t = .op w as ∧ w ∈ W7
mutual
theorem Tr.ex_ops {G : Str → List Int → Prop} {R : Int → Prop} (hG : ∀ w as, G w as → w ∈ W7) : ∀ (t : Tr) (l d : Nat), t.made G R l d → Ops t.ex
  | .op w as, l, d, h => by
    rw [Tr.made] at h
    rw [Tr.ex]
    intro t m
    exact ⟨w, as, List.mem_singleton.mp m, hG w as h⟩
  | .loop k b, l, 0, h => by rw [Tr.made] at h; exact h.elim
  | .loop k b, l, d + 1, h => by
    rw [Tr.made] at h
    rw [Tr.ex]
    intro t m
    obtain ⟨xs, m1, m2⟩ := List.mem_flatten.mp m
    rw [(List.mem_replicate.mp m1).2] at m2
    exact exs_ops hG b (l / 2) d h.2.2 t m2
theorem exs_ops {G : Str → List Int → Prop} {R : Int → Prop} (hG : ∀ w as, G w as → w ∈ W7) : ∀ (b : List Tr) (l d : Nat), mades G R b l d → Ops (exs b)
  | [], _, _, _ => by rw [exs]; intro t m; cases m
  | t :: r, l, d, h => by
    rw [mades] at h
    rw [exs]
    intro u m
    rcases List.mem_append.mp m with m | m
    · exact Tr.ex_ops hG t l d h.1 u m
    · exact exs_ops hG r l d h.2 u m
end
/-! ### data of instructions -/
def Tr.dat : Tr → PyData
  | .op w as => .tuple (.str w :: as.map .int)
  | .loop _ _ => .none
theorem dp_ints {K : PySem.W.Frag} {H : Hp} : ∀ as : List Int, DpAll K H (as.map V.int) (as.map PyData.int)
  | [] => .nil
  | a :: r => .cons (.int a) (dp_ints r)
theorem lay_ints : ∀ as : List Int, PyData.canLayAll0 (as.map PyData.int) = true
  | [] => by rw [List.map_nil, PyData.canLayAll0]
  | a :: r => by rw [List.map_cons, PyData.canLayAll0, PyData.canLay0, lay_ints r]; rfl
theorem depth_ints : ∀ as : List Int, PyData.depthAll (as.map PyData.int) = 0
  | [] => by rw [List.map_nil, PyData.depthAll]
  | a :: r => by rw [List.map_cons, PyData.depthAll, PyData.depth, depth_ints r]; rfl
theorem Ops.dp {K : PySem.W.Frag} {H : Hp} : ∀ {b : List Tr} {vs : List V}, Ops b → TrsAt K H b vs → DpAll K H vs (b.map Tr.dat)
  | [], vs, _, h => by
    rw [TrsAt] at h
    rw [h]
    exact .nil
  | t :: r, vs, o, h => by
    rw [TrsAt] at h
    obtain ⟨v, us, rfl, a, k⟩ := h
    obtain ⟨w, as, rfl, _⟩ := o t List.mem_cons_self
    rw [TrAt] at a
    obtain ⟨x, rfl, sq⟩ := a
    exact .cons (.tup sq (.cons (.str w) (dp_ints as))) (Ops.dp (fun u m => o u (List.mem_cons_of_mem _ m)) k)
theorem Ops.lay : ∀ {b : List Tr}, Ops b → PyData.canLayAll0 (b.map Tr.dat) = true
  | [], _ => by rw [List.map_nil, PyData.canLayAll0]
  | t :: r, o => by
    obtain ⟨w, as, rfl, hw⟩ := o t List.mem_cons_self
    rw [List.map_cons, PyData.canLayAll0, Ops.lay (fun u m => o u (List.mem_cons_of_mem _ m)), Tr.dat, PyData.canLay0, PyData.canLayAll0, PyData.canLay0, W7_ok hw, lay_ints]
    rfl
theorem Ops.deep : ∀ {b : List Tr}, Ops b → PyData.depthAll (b.map Tr.dat) ≤ 1
  | [], _ => by rw [List.map_nil, PyData.depthAll]; exact Nat.zero_le _
  | t :: r, o => by
    obtain ⟨w, as, rfl, hw⟩ := o t List.mem_cons_self
    have ih := Ops.deep (b := r) (fun u m => o u (List.mem_cons_of_mem _ m))
    rw [List.map_cons, PyData.depthAll, Tr.dat, PyData.depth, PyData.depthAll, PyData.depth, depth_ints]
    omega
theorem Ops.shaped {b : List Tr} (o : Ops b) : SeqAt.shaped (.list (b.map Tr.dat)) = true := by
  unfold SeqAt.shaped
  rw [PyData.canLay0, o.lay, PyData.depth, decide_eq_true (by have := o.deep; omega)]
  rfl
theorem shaped_nil : SeqAt.shaped (.list []) = true := by decide
theorem eqv_nil : ∀ b : List PyData, PyData.eqv (.list b) (.list []) = b.isEmpty
  | [] => by rw [PyData.eqv, PyData.eqvAll]; rfl
  | a :: r => by rw [PyData.eqv, PyData.eqvAll]; rfl
theorem inV2 {w a b : Str} : inV (.str w) [.str a, .str b] = true ↔ (w = a ∨ w = b) := by
  show (a == w || (b == w || false)) = true ↔ _
  rw [Bool.or_false, Bool.or_eq_true, beq_iff_eq, beq_iff_eq]
  constructor
  · rintro (h | h)
    · exact .inl h.symm
    · exact .inr h.symm
  · rintro (h | h)
    · exact .inl h.symm
    · exact .inr h.symm
/-! ### promises of the law's own defs -/
def W9 : List Str := ["set", "copy", "copy", "add", "add", "scale", "swap", "read", "write"]
theorem W9_in : ∀ x ∈ W9, x ∈ W7 := by
  have z : (W9.all fun x => W7.contains x) = true := by decide
  intro x m
  exact List.contains_iff_mem.mp (List.all_eq_true.mp z x m)
def spWords : Sp := fun vs H Q _ => vs = [] ∧ ∀ p, H p = none → Q (.ref p) (upd H p (.lst (W9.map V.str)))
def spItem (K : PySem.W.Frag) : Sp := fun vs H Q _ => ∃ (u ws : Addr) (p n : Int) (wl : List Str), vs = [.ref u, .int p, .int n, .ref ws] ∧ Urn H u ∧ 2 ≤ p ∧ p ≤ 10007 ∧ 1 ≤ n ∧ n ≤ 8 ∧ ws ≠ u ∧ SqL K H ws (wl.map V.str) ∧ wl ≠ [] ∧ wl.length ≤ 1000 ∧ (∀ x ∈ wl, x ∈ W7) ∧
  ∀ w as v H', GoodOp p n w as → (w ∈ wl ∨ w = "set") → TrAt K H' (.op w as) v → Urn H' u → But u H H' → Q v H'
def spBody (K : PySem.W.Frag) (d : Nat) : Sp := fun vs H Q _ => ∃ (u ws rs : Addr) (p n : Int) (wl : List Str) (rl : List Int) (l e : Nat), vs = [.ref u, .int p, .int n, .ref ws, .int (l : Int), .int (e : Int), .ref rs] ∧ Urn H u ∧ 2 ≤ p ∧ p ≤ 10007 ∧ 1 ≤ n ∧ n ≤ 8 ∧ ws ≠ u ∧ SqL K H ws (wl.map V.str) ∧ wl ≠ [] ∧ wl.length ≤ 1000 ∧ (∀ x ∈ wl, x ∈ W7) ∧
  rs ≠ u ∧ SqL K H rs (rl.map V.int) ∧ rl ≠ [] ∧ rl.length ≤ 1000 ∧ l ≤ 1000 ∧ e < d ∧
  ∀ b v H', b.length ≤ l → mades (fun w as => GoodOp p n w as ∧ (w ∈ wl ∨ w = "set")) (fun k => k ∈ rl) b l e → BodyAt K H' b v → Urn H' u → But u H H' → Q v H'
mutual
/-- every body within executes a bounded number of steps -/
def Tr.fine : Tr → Prop
  | .op w _ => w ∈ W7
  | .loop _ b => (exs b).length ≤ 100000 ∧ fines b
def fines : List Tr → Prop
  | [] => True
  | t :: r => t.fine ∧ fines r
end
theorem fines_get : ∀ {b : List Tr} {i : Nat} {t : Tr}, fines b → b[i]? = some t → t.fine
  | [], _, _, _, e => by simp at e
  | t :: r, 0, u, h, e => by
    cases e
    rw [fines] at h
    exact h.1
  | t :: r, i + 1, u, h, e => by
    rw [fines] at h
    exact fines_get (i := i) h.2 e
mutual
theorem Tr.fine_ops : ∀ t : Tr, t.fine → Ops t.ex
  | .op w as, h => by
    rw [Tr.fine] at h
    rw [Tr.ex]
    intro t m
    exact ⟨w, as, List.mem_singleton.mp m, h⟩
  | .loop k b, h => by
    rw [Tr.fine] at h
    rw [Tr.ex]
    intro t m
    obtain ⟨xs, m1, m2⟩ := List.mem_flatten.mp m
    rw [(List.mem_replicate.mp m1).2] at m2
    exact fines_ops b h.2 t m2
theorem fines_ops : ∀ b : List Tr, fines b → Ops (exs b)
  | [], _ => by rw [exs]; intro t m; cases m
  | t :: r, h => by
    rw [fines] at h
    rw [exs]
    intro u m
    rcases List.mem_append.mp m with m | m
    · exact Tr.fine_ops t h.1 u m
    · exact fines_ops r h.2 u m
end
theorem most0 : ∀ d, most d 0 = 1
  | 0 => rfl
  | d + 1 => by
    rw [most]
    show max 1 (3 * (0 * _)) = 1
    rw [Nat.zero_mul]
    rfl
theorem most_pos : ∀ d l, 1 ≤ most d l
  | 0, _ => Nat.le_refl 1
  | d + 1, l => by rw [most]; exact Nat.le_max_left _ _
mutual
theorem Tr.made_fine {G : Str → List Int → Prop} {R : Int → Prop} (hG : ∀ w as, G w as → w ∈ W7) (hR : ∀ k, R k → 0 ≤ k ∧ k ≤ 3) : ∀ (t : Tr) (l d : Nat), max 1 l * most d l ≤ 100000 → t.made G R l d → t.fine
  | .op w as, l, d, _, h => by
    rw [Tr.made] at h
    rw [Tr.fine]
    exact hG w as h
  | .loop k b, l, 0, _, h => by rw [Tr.made] at h; exact h.elim
  | .loop k b, l, d + 1, hb, h => by
    rw [Tr.made] at h
    rw [Tr.fine]
    have h1 : 3 * (l / 2 * most d (l / 2)) ≤ 100000 := by
      have h0 : most (d + 1) l ≤ 100000 := Nat.le_trans (Nat.le_mul_of_pos_left _ (by omega)) hb
      rw [most] at h0
      exact Nat.le_trans (Nat.le_max_right _ _) h0
    have h2 := mades_ex hR b (l / 2) d h.2.2
    have h3 : b.length * most d (l / 2) ≤ l / 2 * most d (l / 2) := Nat.mul_le_mul_right _ h.2.1
    refine ⟨by omega, mades_fine hG hR b (l / 2) d ?_ h.2.2⟩
    by_cases z : l / 2 = 0
    · rw [z, most0]
      decide
    · rw [show max 1 (l / 2) = l / 2 by omega]
      omega
theorem mades_fine {G : Str → List Int → Prop} {R : Int → Prop} (hG : ∀ w as, G w as → w ∈ W7) (hR : ∀ k, R k → 0 ≤ k ∧ k ≤ 3) : ∀ (b : List Tr) (l d : Nat), max 1 l * most d l ≤ 100000 → mades G R b l d → fines b
  | [], _, _, _, _ => by rw [fines]; trivial
  | t :: r, l, d, hl, h => by
    rw [mades] at h
    rw [fines]
    exact ⟨Tr.made_fine hG hR t l d hl h.1, mades_fine hG hR r l d hl h.2⟩
end
theorem mades_big {G : Str → List Int → Prop} {R : Int → Prop} (hR : ∀ k, R k → 0 ≤ k ∧ k ≤ 3) {b : List Tr} {l d : Nat} (hl : b.length ≤ l) (hm : max 1 l * most d l ≤ 100000) (h : mades G R b l d) : (exs b).length ≤ 100000 := by
  have h1 := mades_ex hR b l d h
  have h2 : b.length * most d l ≤ max 1 l * most d l := Nat.mul_le_mul_right _ (by omega)
  omega
theorem most84 : max 1 8 * most 4 8 ≤ 100000 := by decide
def spExec (K : PySem.W.Frag) (d : Nat) : Sp := fun vs H Q _ => ∃ v b, vs = [v] ∧ BodyAt K H b v ∧ okB d b ∧ fines b ∧ (exs b).length ≤ 100000 ∧
  ∀ H' l us, Same H H' → H l = none → H' l = some (.lst us) → TrsAt K H' (exs b) us → Q (.ref l) H'
end Lj
set_option Elab.async false
set_option linter.all false
set_option maxRecDepth 100000
namespace Lj
open PySem PySem.Spec PyProof.Rows L2
theorem iteNN {c A B : Prop} [Decidable c] (h : ¬ c) (a : A) : if (!decide c) = true then A else B := by
  rw [decide_eq_false h]
  exact a
/-! ### repr of lists of numbers -/
/-- a number, None, a truth value, shown in a few signs -/
def Leaf (d : PyData) : Prop := d.showable = true ∧ d.hasDict = false ∧ d.depth = 0 ∧ d.shown.length ≤ 1921
theorem leaf_int {i : Int} (h : i.natAbs.log2 < 1920) : Leaf (.int i) := ⟨by rw [PyData.showable]; exact decide_eq_true h, by rw [PyData.hasDict], by rw [PyData.depth], by rw [PyData.shown]; exact int_text_len_1921 h⟩
theorem leaf_none : Leaf .none := ⟨by rw [PyData.showable], by rw [PyData.hasDict], by rw [PyData.depth], by rw [PyData.shown]; decide⟩
theorem leaf_all : ∀ {ds : List PyData}, (∀ d ∈ ds, Leaf d) → PyData.showableAll ds = true ∧ PyData.hasDictAll ds = false ∧ PyData.depthAll ds = 0 ∧ ((PyData.shownAll ds).map (·.length)).sum ≤ 1921 * ds.length ∧ (PyData.shownAll ds).length = ds.length
  | [], _ => ⟨by rw [PyData.showableAll], by rw [PyData.hasDictAll], by rw [PyData.depthAll], by rw [PyData.shownAll]; exact Nat.zero_le _, by rw [PyData.shownAll]; rfl⟩
  | d :: r, h => by
    obtain ⟨a1, a2, a3, a4⟩ := h d List.mem_cons_self
    obtain ⟨b1, b2, b3, b4, b5⟩ := leaf_all (ds := r) fun x m => h x (List.mem_cons_of_mem _ m)
    refine ⟨by rw [PyData.showableAll, a1, b1]; rfl, by rw [PyData.hasDictAll, a2, b2]; rfl, by rw [PyData.depthAll, a3, b3]; rfl, ?_, by rw [PyData.shownAll, List.length_cons, b5, List.length_cons]⟩
    rw [PyData.shownAll, List.map_cons, List.sum_cons, List.length_cons]
    omega
theorem leaf_list {ds : List PyData} (h : ∀ d ∈ ds, Leaf d) (n : ds.length ≤ 8000) : (PyData.list ds).showable = true ∧ (PyData.list ds).hasDict = false ∧ (PyData.list ds).depth ≤ 64 ∧ (PyData.list ds).shown.length ≤ sizeLine := by
  obtain ⟨b1, b2, b3, b4, b5⟩ := leaf_all h
  refine ⟨by rw [PyData.showable]; exact b1, by rw [PyData.hasDict]; exact b2, by rw [PyData.depth, b3]; decide, ?_⟩
  rw [PyData.shown, sizeLine_eq]
  have := PySem.listText_len_le (PyData.shownAll ds)
  omega
theorem dp_int_list {K : PySem.W.Frag} {H : Hp} {a : Addr} {ns : List Int} (h : SqL K H a (ns.map V.int)) : Dp K H (.ref a) (.list (ns.map PyData.int)) := .lst h (dp_ints ns)
theorem log_of {i : Int} {k : Nat} (h : i.natAbs < 2 ^ k) (k0 : 0 < k) (k1 : k ≤ 1920) : i.natAbs.log2 < 1920 := Nat.lt_of_lt_of_le (PySem.Flt.log2_lt_of k0 h) k1
theorem leaf_ints {ns : List Int} (h : ∀ n ∈ ns, n.natAbs < 2 ^ 1000) : ∀ d ∈ ns.map PyData.int, Leaf d := by
  intro d m
  obtain ⟨n, hn, rfl⟩ := List.mem_map.mp m
  exact leaf_int (log_of (h n hn) (by decide) (by decide))
/-! ### bounds -/
def top : Nat → Int
  | 0 => 1
  | d + 1 => 10 ^ 18 * (1000 * top d)
theorem top_pos : ∀ d, 1 ≤ top d
  | 0 => by decide
  | d + 1 => by
    have := top_pos d
    rw [top]
    omega
mutual
theorem Tr.len_bd : ∀ (t : Tr) (d : Nat), t.wf d → 0 ≤ t.len ∧ t.len ≤ top d
  | .op w as, d, _ => by
    rw [Tr.len]
    exact ⟨by decide, top_pos d⟩
  | .loop k b, 0, h => by rw [Tr.wf] at h; exact h.elim
  | .loop k b, d + 1, h => by
    rw [Tr.wf] at h
    obtain ⟨i0, i1⟩ := lens_bd b d h.2.2.2
    have tp := top_pos d
    have i2 : lens b ≤ 1000 * top d := Int.le_trans i1 (Int.mul_le_mul_of_nonneg_right (by omega) (by omega))
    rw [Tr.len, top]
    exact ⟨Int.mul_nonneg h.1 i0, Int.mul_le_mul h.2.1 i2 i0 (by decide)⟩
theorem lens_bd : ∀ (b : List Tr) (d : Nat), wfs b d → 0 ≤ lens b ∧ lens b ≤ (b.length : Int) * top d
  | [], d, _ => by rw [lens]; exact ⟨by decide, by simp⟩
  | t :: r, d, h => by
    rw [wfs] at h
    obtain ⟨a0, a1⟩ := Tr.len_bd t d h.1
    obtain ⟨b0, b1⟩ := lens_bd r d h.2
    rw [lens, List.length_cons]
    refine ⟨by omega, ?_⟩
    rw [show ((r.length + 1 : Nat) : Int) = (r.length : Int) + 1 from rfl, Int.add_mul, Int.one_mul]
    omega
end
mutual
theorem Tr.cnt_bd (z : Str) : ∀ (t : Tr) (d : Nat), t.wf d → 0 ≤ t.cnt z ∧ t.cnt z ≤ t.len
  | .op w as, d, _ => by
    rw [Tr.len, Tr.cnt]
    split <;> exact ⟨by decide, by decide⟩
  | .loop k b, 0, h => by rw [Tr.wf] at h; exact h.elim
  | .loop k b, d + 1, h => by
    rw [Tr.wf] at h
    obtain ⟨i0, i1⟩ := cnts_bd z b d h.2.2.2
    rw [Tr.len, Tr.cnt]
    exact ⟨Int.mul_nonneg h.1 i0, Int.mul_le_mul_of_nonneg_left i1 h.1⟩
theorem cnts_bd (z : Str) : ∀ (b : List Tr) (d : Nat), wfs b d → 0 ≤ cnts z b ∧ cnts z b ≤ lens b
  | [], d, _ => by rw [lens, cnts]; exact ⟨by decide, by decide⟩
  | t :: r, d, h => by
    rw [wfs] at h
    obtain ⟨a0, a1⟩ := Tr.cnt_bd z t d h.1
    obtain ⟨b0, b1⟩ := cnts_bd z r d h.2
    rw [lens, cnts]
    omega
end
mutual
theorem Tr.inn_bd : ∀ (t : Tr) (d : Nat), t.wf d → 0 ≤ t.inn ∧ t.inn ≤ top d
  | .op w as, d, _ => by
    rw [Tr.inn]
    have := top_pos d
    omega
  | .loop k b, 0, h => by rw [Tr.wf] at h; exact h.elim
  | .loop k b, d + 1, h => by
    rw [Tr.wf] at h
    obtain ⟨i0, i1⟩ := inns_bd b d h.2.2.2
    have tp := top_pos d
    have i2 : inns b ≤ 1000 * top d := Int.le_trans i1 (Int.mul_le_mul_of_nonneg_right (by omega) (by omega))
    rw [Tr.inn, top]
    omega
theorem inns_bd : ∀ (b : List Tr) (d : Nat), wfs b d → 0 ≤ inns b ∧ inns b ≤ (b.length : Int) * top d
  | [], d, _ => by rw [inns]; exact ⟨by decide, by simp⟩
  | t :: r, d, h => by
    rw [wfs] at h
    obtain ⟨a0, a1⟩ := Tr.inn_bd t d h.1
    obtain ⟨b0, b1⟩ := inns_bd r d h.2
    rw [inns, List.length_cons]
    refine ⟨by omega, ?_⟩
    rw [show ((r.length + 1 : Nat) : Int) = (r.length : Int) + 1 from rfl, Int.add_mul, Int.one_mul]
    omega
end
mutual
theorem Tr.dep_bd : ∀ (t : Tr) (d : Nat), t.wf d → t.dep ≤ d
  | .op w as, d, _ => by rw [Tr.dep]; omega
  | .loop k b, 0, h => by rw [Tr.wf] at h; exact h.elim
  | .loop k b, d + 1, h => by
    rw [Tr.wf] at h
    have := deps_bd b d h.2.2.2
    rw [Tr.dep]
    omega
theorem deps_bd : ∀ (b : List Tr) (d : Nat), wfs b d → deps b ≤ d
  | [], d, _ => by rw [deps]; omega
  | t :: r, d, h => by
    rw [wfs] at h
    have h1 := Tr.dep_bd t d h.1
    have h2 := deps_bd r d h.2
    rw [deps]
    split <;> omega
end
theorem lens_log {b : List Tr} {d : Nat} (h : okB (d + 1) b) (hd : d ≤ 6) : (lens b).natAbs < 2 ^ 1000 := by
  obtain ⟨h0, h1⟩ := lens_bd b d h.1
  have tp := top_pos d
  have h2 : lens b ≤ 1000 * top d := Int.le_trans h1 (Int.mul_le_mul_of_nonneg_right (by have := h.2; omega) (by omega))
  have h3 : 1000 * top d < 2 ^ 1000 := by
    have : d = 0 ∨ d = 1 ∨ d = 2 ∨ d = 3 ∨ d = 4 ∨ d = 5 ∨ d = 6 := by omega
    rcases this with rfl | rfl | rfl | rfl | rfl | rfl | rfl <;> decide +kernel
  omega
/-! ### once, and with great rounds -/
mutual
def Tr.once : Tr → Tr
  | .op w as => .op w as
  | .loop _ b => .loop 1 (onces b)
def onces : List Tr → List Tr
  | [] => []
  | t :: r => t.once :: onces r
end
theorem onces_map : ∀ b : List Tr, onces b = b.map Tr.once
  | [] => by rw [onces]; rfl
  | t :: r => by rw [onces, onces_map r]; rfl
mutual
theorem Tr.made_once {G : Str → List Int → Prop} {R : Int → Prop} : ∀ (t : Tr) (l d : Nat), t.made G R l d → t.once.made G (fun k => k = 1) l d
  | .op w as, l, d, h => by
    rw [Tr.made] at h
    rw [Tr.once, Tr.made]
    exact h
  | .loop k b, l, 0, h => by rw [Tr.made] at h; exact h.elim
  | .loop k b, l, d + 1, h => by
    rw [Tr.made] at h
    rw [Tr.once, Tr.made]
    exact ⟨rfl, by rw [onces_map, List.length_map]; exact h.2.1, mades_once b (l / 2) d h.2.2⟩
theorem mades_once {G : Str → List Int → Prop} {R : Int → Prop} : ∀ (b : List Tr) (l d : Nat), mades G R b l d → mades G (fun k => k = 1) (onces b) l d
  | [], l, d, _ => by rw [onces]; exact mades_nil
  | t :: r, l, d, h => by
    rw [mades] at h
    rw [onces, mades]
    exact ⟨Tr.made_once t l d h.1, mades_once r l d h.2⟩
end
/-- no step of the word z, were each loop executed once -/
def NoW (z : Str) (b : List Tr) : Prop := z ∉ (exs (onces b)).map Tr.word
mutual
theorem Tr.noW (z : Str) : ∀ t : Tr, z ∉ (t.once.ex).map Tr.word → t.cnt z = 0
  | .op w as, h => by
    rw [Tr.once, Tr.ex] at h
    rw [Tr.cnt, if_neg]
    intro e
    exact h (by subst e; exact List.mem_singleton.mpr rfl)
  | .loop k b, h => by
    rw [Tr.once, Tr.ex] at h
    rw [Tr.cnt, noWs z b (by
      intro m
      refine h ?_
      show z ∈ (List.flatten [exs (onces b)]).map Tr.word
      rw [List.flatten_cons, List.flatten_nil, List.append_nil]
      exact m), Int.mul_zero]
theorem noWs (z : Str) : ∀ b : List Tr, NoW z b → cnts z b = 0
  | [], _ => by rw [cnts]
  | t :: r, h => by
    unfold NoW at h
    rw [onces, exs, List.map_append, List.mem_append] at h
    rw [cnts, Tr.noW z t (fun m => h (.inl m)), noWs z r (fun m => h (.inr m))]
    rfl
end
mutual
/-- the same but for rounds, and these only where nothing is read or written -/
def Tr.gr : Tr → Tr → Prop
  | .op w as, t => t = .op w as
  | .loop k b, t => ∃ k' b', t = .loop k' b' ∧ 0 ≤ k' ∧ k' ≤ 10 ^ 18 ∧ grs b b' ∧ (k' = k ∨ (NoW "read" b' ∧ NoW "write" b'))
def grs : List Tr → List Tr → Prop
  | [], g => g = []
  | t :: r, g => ∃ t' r', g = t' :: r' ∧ t.gr t' ∧ grs r r'
end
theorem grs_snoc : ∀ {b g : List Tr} {t t' : Tr}, grs b g → t.gr t' → grs (b ++ [t]) (g ++ [t'])
  | [], g, t, t', h, k => by
    rw [grs] at h
    rw [h]
    show grs [t] [t']
    rw [grs]
    exact ⟨t', [], rfl, k, by rw [grs]⟩
  | a :: r, g, t, t', h, k => by
    rw [grs] at h
    obtain ⟨a', r', rfl, h1, h2⟩ := h
    show grs (a :: (r ++ [t])) (a' :: (r' ++ [t']))
    rw [grs]
    exact ⟨a', _, rfl, h1, grs_snoc h2 k⟩
mutual
theorem Tr.gr_all : ∀ (t t' : Tr), t.gr t' → t'.once = t.once ∧ t'.inn = t.inn ∧ t'.dep = t.dep ∧ (∀ d, t.wf d → t'.wf d) ∧ (∀ G R l d, t.made G R l d → t'.made G (fun k => R k ∨ (0 ≤ k ∧ k ≤ 10 ^ 18)) l d) ∧ ((t.cnt "read" = t'.cnt "read") ∧ (t.cnt "write" = t'.cnt "write"))
  | .op w as, t', h => by
    rw [Tr.gr] at h
    subst h
    refine ⟨rfl, rfl, rfl, fun _ h => h, fun G R l d h => ?_, rfl, rfl⟩
    rw [Tr.made] at h ⊢
    exact h
  | .loop k b, t', h => by
    rw [Tr.gr] at h
    obtain ⟨k', b', rfl, k0, k1, hg, hk⟩ := h
    obtain ⟨e1, e2, e3, e4, e5, e6, e7⟩ := grs_all b b' hg
    refine ⟨by rw [Tr.once, Tr.once, e1], by rw [Tr.inn, Tr.inn, e2, e7.1], by rw [Tr.dep, Tr.dep, e3], fun d h => ?_, fun G R l d h => ?_, ?_⟩
    · cases d with
      | zero => rw [Tr.wf] at h; exact h.elim
      | succ d =>
        rw [Tr.wf] at h ⊢
        exact ⟨k0, k1, by rw [e7.1]; exact h.2.2.1, e4 d h.2.2.2⟩
    · cases d with
      | zero => rw [Tr.made] at h; exact h.elim
      | succ d =>
        rw [Tr.made] at h ⊢
        exact ⟨.inr ⟨k0, k1⟩, by rw [e7.1]; exact h.2.1, e5 G R _ _ h.2.2⟩
    · rw [Tr.cnt, Tr.cnt, Tr.cnt, Tr.cnt]
      rcases hk with rfl | ⟨n1, n2⟩
      · rw [e6.1, e6.2]
        exact ⟨rfl, rfl⟩
      · rw [e6.1, e6.2, noWs _ b' n1, noWs _ b' n2, Int.mul_zero, Int.mul_zero]
        exact ⟨rfl, rfl⟩
theorem grs_all : ∀ (b g : List Tr), grs b g → onces g = onces b ∧ inns g = inns b ∧ deps g = deps b ∧ (∀ d, wfs b d → wfs g d) ∧ (∀ G R l d, mades G R b l d → mades G (fun k => R k ∨ (0 ≤ k ∧ k ≤ 10 ^ 18)) g l d) ∧ ((cnts "read" b = cnts "read" g) ∧ (cnts "write" b = cnts "write" g)) ∧ (g.length = b.length ∧ True)
  | [], g, h => by
    rw [grs] at h
    subst h
    exact ⟨rfl, rfl, rfl, fun _ h => h, fun _ _ _ _ _ => mades_nil, ⟨rfl, rfl⟩, rfl, trivial⟩
  | t :: r, g, h => by
    rw [grs] at h
    obtain ⟨t', r', rfl, h1, h2⟩ := h
    obtain ⟨a1, a2, a3, a4, a5, a6⟩ := Tr.gr_all t t' h1
    obtain ⟨e1, e2, e3, e4, e5, e6, e7⟩ := grs_all r r' h2
    refine ⟨by rw [onces, onces, a1, e1], by rw [inns, inns, a2, e2], by rw [deps, deps, a3, e3], fun d h => ?_, fun G R l d h => ?_, ⟨by rw [cnts, cnts, a6.1, e6.1], by rw [cnts, cnts, a6.2, e6.2]⟩, by rw [List.length_cons, List.length_cons, e7.1], trivial⟩
    · rw [wfs] at h ⊢
      exact ⟨a4 d h.1, e4 d h.2⟩
    · rw [mades] at h ⊢
      exact ⟨a5 G R l d h.1, e5 G R l d h.2⟩
end
theorem shaped_ints (ns : List Int) : SeqAt.shaped (.list (ns.map PyData.int)) = true := by
  unfold SeqAt.shaped
  rw [PyData.canLay0, lay_ints, PyData.depth, depth_ints]
  rfl
theorem same_but {H H1 H2 : Hp} {u : Addr} (s : Same H H1) (n : H u = none) (b : But u H1 H2) : Same H H2 := fun x o e => b x o (ne_of_none e n) (s x o e)
/-- one parameter, given by its name -/
theorem kb1 {K : PySem.W.Frag} {x p : Str} {st : Stmt} {f : Addr} {fd : FuncData} (F : Fun K x x st f fd)
    (h : ∀ (kV doc pm : Value) (an : Option Addr) (cdv ct u : Value), bindArgs (PySem.W.fnOf x x (defArgs st) (defBody st) (defScope st) .none kV doc pm an cdv ct) ⟨[], [(p, u)]⟩ = pure [(p, u)]) :
    KBinds K fd [p] [p] (fun us ws => if us.isEmpty then ws else []) (fun us ws => if us.isEmpty then ws else []) := by
  obtain ⟨oc, od, kV, doc, pm, an, cdv, ct, osl, rfl, lk, hcd⟩ := F.ex
  refine ⟨fun s us ws _ hl => ?_, fun {vs us zs ws} r rz => ?_⟩
  · cases us with
    | cons u r =>
      rw [show (u :: r).isEmpty = false from rfl, if_neg Bool.false_ne_true] at hl
      cases hl
    | nil =>
      match ws, hl with
      | [_], _ => exact .of_eq (h ..)
  · cases r with
    | nil => exact rz
    | cons _ _ => exact .nil
end Lj
namespace Lj
mutual
theorem Tr.wf_up : ∀ (t : Tr) (n : Nat), t.wf n → t.wf (n + 1)
  | .op w as, n, h => by
    rw [Tr.wf] at h ⊢
    exact h
  | .loop k b, 0, h => by rw [Tr.wf] at h; exact h.elim
  | .loop k b, n + 1, h => by
    rw [Tr.wf] at h ⊢
    exact ⟨h.1, h.2.1, h.2.2.1, wfs_up' b n h.2.2.2⟩
theorem wfs_up' : ∀ (b : List Tr) (n : Nat), wfs b n → wfs b (n + 1)
  | [], n, _ => by rw [wfs]; trivial
  | t :: r, n, h => by
    rw [wfs] at h ⊢
    exact ⟨Tr.wf_up t n h.1, wfs_up' r n h.2⟩
end
theorem wfs_up {b : List Tr} {n : Nat} (h : wfs b n) : wfs b (n + 1) := wfs_up' b n h
end Lj
set_option Elab.async false
set_option linter.all false
set_option maxRecDepth 100000
namespace Lj
open PySem PySem.Spec PyProof.Rows L2
theorem div_ok {i j : Int} {k : Nat} (h0 : 0 < j) (h : j.natAbs < 2 ^ k) (k0 : 0 < k) (k1 : k ≤ 9000) : CDivP i j := ⟨h0, PyProof.noPylong_of_log2 (Nat.lt_of_lt_of_le (PySem.Flt.log2_lt_of k0 h) k1)⟩
/-! ### the last step that assigns a register -/
/-- the registers that an instruction assigns -/
def asgs (w : Str) (as : List Int) : List Int := if w = "swap" then as else if w = "write" then [] else as.take 1
def Tr.asg (x : Int) : Tr → Bool
  | .op w as => decide (x ∈ asgs w as)
  | .loop _ _ => false
def la (x : Int) : List Tr → Option Nat
  | [] => none
  | t :: r => match la x r with
    | some j => some (j + 1)
    | none => if t.asg x then some 0 else none
theorem la_append (x : Int) (ys : List Tr) : ∀ xs : List Tr, la x (xs ++ ys) = match la x ys with
    | some j => some (xs.length + j)
    | none => la x xs
  | [] => by
    show la x ys = _
    cases la x ys with
    | none => rfl
    | some j => show some j = some (0 + j); rw [Nat.zero_add]
  | t :: r => by
    show (match la x (r ++ ys) with | some j => some (j + 1) | none => if t.asg x then some 0 else none) = _
    rw [la_append x ys r]
    cases la x ys with
    | none => rfl
    | some j =>
      show some (r.length + j + 1) = some (r.length + 1 + j)
      congr 1
      omega
theorem la_flat (x : Int) (xs : List Tr) : ∀ n : Nat, la x (List.replicate n xs).flatten = match n, la x xs with
    | 0, _ => none
    | k + 1, some j => some (k * xs.length + j)
    | _ + 1, none => none
  | 0 => rfl
  | n + 1 => by
    rw [List.replicate_succ', List.flatten_append, List.flatten_cons, List.flatten_nil, List.append_nil, la_append]
    cases h : la x xs with
    | some j =>
      show some (((List.replicate n xs).flatten).length + j) = some (n * xs.length + j)
      rw [flat_len]
    | none =>
      show la x (List.replicate n xs).flatten = none
      rw [la_flat x xs n, h]
      cases n <;> rfl
/-- a prefix of a repeated list -/
theorem take_flat {α : Type} (xs : List α) (n k r : Nat) (hk : k < n) (hr : r ≤ xs.length) : ((List.replicate n xs).flatten).take (k * xs.length + r) = (List.replicate k xs).flatten ++ xs.take r := by
  obtain ⟨m, rfl⟩ : ∃ m, n = k + (m + 1) := ⟨n - k - 1, by omega⟩
  rw [← List.replicate_append_replicate, List.flatten_append, ← flat_len k xs, List.take_length_add_append, List.replicate_succ, List.flatten_cons, List.take_append_of_le_length hr]
theorem take_flat_all {α : Type} (xs : List α) (n : Nat) : ((List.replicate n xs).flatten).take (n * xs.length) = (List.replicate n xs).flatten := by
  rw [← flat_len n xs]
  exact List.take_length
/-- an optional number as a value -/
def optV : Option Nat → V
  | none => .non
  | some j => .int (j : Nat)
mutual
/-- each instruction but loops has arguments -/
def Tr.hasArgs : Tr → Prop
  | .op _ as => as ≠ []
  | .loop _ b => haveArgs b
def haveArgs : List Tr → Prop
  | [] => True
  | t :: r => t.hasArgs ∧ haveArgs r
end
theorem args_get : ∀ {b : List Tr} {i : Nat} {t : Tr}, haveArgs b → b[i]? = some t → t.hasArgs
  | [], _, _, _, e => by simp at e
  | t :: r, 0, u, h, e => by
    cases e
    rw [haveArgs] at h
    exact h.1
  | t :: r, i + 1, u, h, e => by
    rw [haveArgs] at h
    exact args_get (i := i) h.2 e
theorem GoodOp.args {p n : Int} {w : Str} {as : List Int} (h : GoodOp p n w as) : as ≠ [] := by
  rcases h with ⟨_, _, _, rfl, _⟩ | ⟨_, _, rfl, _⟩ | ⟨_, _, _, rfl, _⟩ | ⟨_, _, _, _, rfl, _⟩ <;> intro z <;> cases z
mutual
theorem Tr.made_args {G : Str → List Int → Prop} {R : Int → Prop} (hG : ∀ w as, G w as → as ≠ []) : ∀ (t : Tr) (l d : Nat), t.made G R l d → t.hasArgs
  | .op w as, l, d, h => by
    rw [Tr.made] at h
    rw [Tr.hasArgs]
    exact hG w as h
  | .loop k b, l, 0, h => by rw [Tr.made] at h; exact h.elim
  | .loop k b, l, d + 1, h => by
    rw [Tr.made] at h
    rw [Tr.hasArgs]
    exact mades_args hG b (l / 2) d h.2.2
theorem mades_args {G : Str → List Int → Prop} {R : Int → Prop} (hG : ∀ w as, G w as → as ≠ []) : ∀ (b : List Tr) (l d : Nat), mades G R b l d → haveArgs b
  | [], _, _, _ => by rw [haveArgs]; trivial
  | t :: r, l, d, h => by
    rw [mades] at h
    rw [haveArgs]
    exact ⟨Tr.made_args hG t l d h.1, mades_args hG r l d h.2⟩
end
theorem mades_drop {G : Str → List Int → Prop} {R : Int → Prop} : ∀ {b : List Tr} {l d : Nat}, mades G R b l d → mades G R (b.drop 1) l d
  | [], _, _, h => h
  | t :: r, l, d, h => by
    rw [mades] at h
    exact h.2
/-! ### slices of tuples -/
theorem cut_tail (x : V) (xs : List V) : cutV (x :: xs) (some 1) none = xs := by
  unfold cutV
  rw [show HT.sIx (x :: xs).length 0 (some 1) = min 1 (x :: xs).length from HT.sIx_nat _ _ 1, HT.sIx_none, List.length_cons, show min 1 (xs.length + 1) = 1 by omega]
  show (xs.take (xs.length + 1 - 1)) = xs
  rw [Nat.add_sub_cancel]
  exact List.take_length
theorem cut_tail_ne (x : V) (xs : List V) : ¬ (HT.sIx (x :: xs).length 0 (some 1) = 0 ∧ HT.sIx (x :: xs).length (x :: xs).length none = (x :: xs).length) := by
  rw [show HT.sIx (x :: xs).length 0 (some 1) = min 1 (x :: xs).length from HT.sIx_nat _ _ 1, List.length_cons, show min 1 (xs.length + 1) = 1 by omega]
  rintro ⟨h, _⟩
  cases h
theorem cut_one (x : V) (xs : List V) : cutV (x :: xs) (some 1) (some 2) = xs.take 1 := by
  unfold cutV
  rw [show HT.sIx (x :: xs).length 0 (some 1) = min 1 (x :: xs).length from HT.sIx_nat _ _ 1, show HT.sIx (x :: xs).length (x :: xs).length (some 2) = min 2 (x :: xs).length from HT.sIx_nat _ _ 2, List.length_cons, show min 1 (xs.length + 1) = 1 by omega]
  show xs.take (min 2 (xs.length + 1) - 1) = xs.take 1
  cases xs with
  | nil => rfl
  | cons y ys => rw [show min 2 ((y :: ys).length + 1) - 1 = 1 by rw [List.length_cons]; omega]
theorem cut_one_ne (x : V) (xs : List V) : ¬ (HT.sIx (x :: xs).length 0 (some 1) = 0 ∧ HT.sIx (x :: xs).length (x :: xs).length (some 2) = (x :: xs).length) := by
  rw [show HT.sIx (x :: xs).length 0 (some 1) = min 1 (x :: xs).length from HT.sIx_nat _ _ 1, List.length_cons, show min 1 (xs.length + 1) = 1 by omega]
  rintro ⟨h, _⟩
  cases h
theorem flat_ints (ns : List Int) : (ns.map V.int).all flatV = true := by
  induction ns with
  | nil => rfl
  | cons s r ih => exact ih
theorem inV_ints {z : Int} : ∀ {ss : List Int}, inV (.int z) (ss.map V.int) = decide (z ∈ ss)
  | [] => by
    show false = _
    rw [decide_eq_false (List.not_mem_nil)]
  | s :: r => by
    show (s == z || inV (.int z) (r.map V.int)) = _
    rw [inV_ints, Bool.eq_iff_iff, Bool.or_eq_true, decide_eq_true_iff, decide_eq_true_iff, List.mem_cons, beq_iff_eq]
    constructor
    · rintro (h | h)
      · exact .inl h.symm
      · exact .inr h
    · rintro (h | h)
      · exact .inl h.symm
      · exact .inr h
/-! ### promises -/
def spAsg (K : PySem.W.Frag) : Sp := fun vs H Q _ => ∃ (v : V) (w : Str) (as : List Int) (x : Int), vs = [v, .int x] ∧ TrAt K H (.op w as) v ∧ as ≠ [] ∧ ∀ H', Same H H' → Q (.bl (decide (x ∈ asgs w as))) H'
def spLA (K : PySem.W.Frag) (n : Nat) : Sp := fun vs H Q _ => ∃ (v : V) (b : List Tr) (m x : Int), vs = [v, .int m, .int x] ∧ BodyAt K H b v ∧ okB n b ∧ haveArgs b ∧ 0 ≤ m ∧ ∀ H', Same H H' → Q (optV (la x ((exs b).take m.toNat))) H'
def spLW (K : PySem.W.Frag) (n : Nat) : Sp := fun vs H Q _ => ∃ (v : V) (t : Tr) (m x : Int), vs = [v, .int m, .int x] ∧ TrAt K H t v ∧ okB (n + 1) [t] ∧ t.hasArgs ∧ 0 ≤ m ∧ m ≤ t.len ∧ ∀ H', Same H H' → Q (optV (la x (t.ex.take m.toNat))) H'
theorem la_one (x : Int) (w : Str) (as : List Int) : la x [.op w as] = if x ∈ asgs w as then some 0 else none := by
  show (if decide (x ∈ asgs w as) = true then some 0 else none) = _
  by_cases h : x ∈ asgs w as
  · rw [decide_eq_true h, if_pos h, if_pos rfl]
  · rw [decide_eq_false h, if_neg h, if_neg Bool.false_ne_true]
/-- within a loop -/
theorem la_loop (x : Int) (E : List Tr) (k m : Nat) (hE : 0 < E.length) (hm : m ≤ k * E.length) : la x (((List.replicate k E).flatten).take m) =
    match la x (E.take (m % E.length)) with
    | some j => some (m / E.length * E.length + j)
    | none => match m / E.length, la x E with
      | 0, _ => none
      | t + 1, some j => some (t * E.length + j)
      | _ + 1, none => none := by
  have hd := Nat.div_add_mod m E.length
  have hr := Nat.mod_lt m hE
  generalize m / E.length = t at hd
  generalize m % E.length = r at hd hr
  have e : ((List.replicate k E).flatten).take m = (List.replicate t E).flatten ++ E.take r := by
    rw [← hd, Nat.mul_comm]
    by_cases h : t < k
    · exact take_flat E k t r h (Nat.le_of_lt hr)
    · have h1 : k * E.length ≤ t * E.length := Nat.mul_le_mul_right _ (by omega)
      have h2 : t * E.length + r ≤ k * E.length := by rw [← hd, Nat.mul_comm] at hm; exact hm
      have h3 : r = 0 := by omega
      have h4 : t = k := by
        have := Nat.eq_of_mul_eq_mul_right hE (show t * E.length = k * E.length by omega)
        exact this
      subst h3 h4
      rw [Nat.add_zero, take_flat_all, List.take_zero, List.append_nil]
  rw [e, la_append]
  cases la x (E.take r) with
  | some j =>
    show some (((List.replicate t E).flatten).length + j) = _
    rw [flat_len]
  | none => exact la_flat x E t
end Lj
namespace Lj
open PySem PySem.Spec PyProof.Rows L2
theorem vals_snoc : ∀ {xs : List V} {us : List Value} {x : V} {u : Value}, Vals xs us → RelV x u → Vals (xs ++ [x]) (us ++ [u])
  | _, _, _, _, .nil, r => .cons r .nil
  | _, _, _, _, .cons a b, r => .cons a (vals_snoc b r)
theorem vals_rev : ∀ {xs : List V} {us : List Value}, Vals xs us → Vals xs.reverse us.reverse
  | _, _, .nil => .nil
  | _, _, .cons a b => by
    rw [List.reverse_cons, List.reverse_cons]
    exact vals_snoc (vals_rev b) a
end Lj
set_option Elab.async false
set_option linter.all false
set_option maxRecDepth 100000
namespace Lj
open PySem PySem.Spec PyProof.Rows L2
/-! ### trees shown -/
mutual
def Tr.datT : Tr → PyData
  | .op w as => .tuple (.str w :: as.map .int)
  | .loop k b => .tuple [.str "loop", .int k, .tuple (datTs b)]
def datTs : List Tr → List PyData
  | [] => []
  | t :: r => t.datT :: datTs r
end
mutual
theorem Tr.dp {K : PySem.W.Frag} {H : Hp} : ∀ (t : Tr) (v : V), TrAt K H t v → Dp K H v t.datT
  | .op w as, v, h => by
    rw [TrAt] at h
    obtain ⟨a, rfl, sq⟩ := h
    rw [Tr.datT]
    exact .tup sq (.cons (.str w) (dp_ints as))
  | .loop k b, v, h => by
    rw [TrAt] at h
    obtain ⟨a, c, vs, rfl, sq, sq2, r⟩ := h
    rw [Tr.datT]
    exact .tup sq (.cons (.str _) (.cons (.int k) (.cons (.tup sq2 (trs_dp b vs r)) .nil)))
theorem trs_dp {K : PySem.W.Frag} {H : Hp} : ∀ (b : List Tr) (vs : List V), TrsAt K H b vs → DpAll K H vs (datTs b)
  | [], vs, h => by
    rw [TrsAt] at h
    rw [h, datTs]
    exact .nil
  | t :: r, vs, h => by
    rw [TrsAt] at h
    obtain ⟨v, us, rfl, a, k⟩ := h
    rw [datTs]
    exact .cons (Tr.dp t v a) (trs_dp r us k)
end
def sb : Nat → Nat
  | 0 => 20000
  | d + 1 => 20000 + 8 * (sb d + 2)
theorem sb_ge : ∀ d, 20000 ≤ sb d
  | 0 => Nat.le_refl _
  | d + 1 => by rw [sb]; omega
/-- short arguments -/
def Short (w : Str) (as : List Int) : Prop := w ∈ W7 ∧ as.length ≤ 3 ∧ ∀ a ∈ as, a.natAbs < 2 ^ 1000
theorem W7_shown {w : Str} (h : w ∈ W7) : (PyData.shown (.str w)).length ≤ 20 := by
  have z : (W7.all fun w => decide ((PyData.shown (.str w)).length ≤ 20)) = true := by decide +kernel
  exact of_decide_eq_true (List.all_eq_true.mp z w h)
mutual
theorem Tr.made_show {G : Str → List Int → Prop} {R : Int → Prop} (hG : ∀ w as, G w as → Short w as) (hR : ∀ k, R k → k.natAbs < 2 ^ 1000) : ∀ (t : Tr) (l d : Nat), l ≤ 8 → t.made G R l d →
    t.datT.showable = true ∧ t.datT.hasDict = false ∧ t.datT.depth ≤ 2 * d + 1 ∧ t.datT.shown.length ≤ sb d
  | .op w as, l, d, hl, h => by
    rw [Tr.made] at h
    obtain ⟨h1, h2, h3⟩ := hG w as h
    obtain ⟨a1, a2, a3, a4, a5⟩ := leaf_all (leaf_ints h3)
    rw [Tr.datT]
    refine ⟨by rw [PyData.showable, PyData.showableAll, PyData.showable, a1]; rfl, by rw [PyData.hasDict, PyData.hasDictAll, PyData.hasDict, a2]; rfl, by rw [PyData.depth, PyData.depthAll, PyData.depth, a3]; exact Nat.succ_le_succ (Nat.zero_le _), ?_⟩
    rw [PyData.shown, PyData.shownAll]
    have z := PySem.tupleText_len_le (PyData.shown (.str w) :: PyData.shownAll (as.map PyData.int))
    rw [List.map_cons, List.sum_cons, List.length_cons, a5] at z
    have z2 := W7_shown h1
    have z3 := sb_ge d
    rw [List.length_map] at z a4
    omega
  | .loop k b, l, 0, _, h => by rw [Tr.made] at h; exact h.elim
  | .loop k b, l, d + 1, hl, h => by
    rw [Tr.made] at h
    obtain ⟨b1, b2, b3, b4, b5⟩ := mades_show hG hR b (l / 2) d (by omega) h.2.2
    obtain ⟨i1, i2, i3, i4⟩ := leaf_int (log_of (hR k h.1) (by decide) (by decide))
    have lp : (PyData.shown (.str "loop")).length ≤ 20 := by decide +kernel
    have y := PySem.tupleText_len_le (PyData.shownAll (datTs b))
    have hb := h.2.1
    rw [Tr.datT]
    refine ⟨by rw [PyData.showable, PyData.showableAll, PyData.showable, PyData.showableAll, i1, PyData.showableAll, PyData.showable, b1, PyData.showableAll]; rfl,
      by rw [PyData.hasDict, PyData.hasDictAll, PyData.hasDict, PyData.hasDictAll, i2, PyData.hasDictAll, PyData.hasDict, b2, PyData.hasDictAll]; rfl,
      by rw [PyData.depth, PyData.depthAll, PyData.depth, PyData.depthAll, i3, PyData.depthAll, PyData.depth, PyData.depthAll]; omega, ?_⟩
    rw [PyData.shown, PyData.shownAll, PyData.shownAll, PyData.shownAll, PyData.shownAll]
    have z := PySem.tupleText_len_le [PyData.shown (.str "loop"), PyData.shown (.int k), PyData.shown (.tuple (datTs b))]
    have ez : (PyData.shown (.tuple (datTs b))) = tupleText (PyData.shownAll (datTs b)) := by rw [PyData.shown]
    rw [List.map_cons, List.map_cons, List.map_cons, List.map_nil, List.sum_cons, List.sum_cons, List.sum_cons, List.sum_nil, ez] at z
    rw [show ([PyData.shown (.str "loop"), PyData.shown (.int k), tupleText (PyData.shownAll (datTs b))] : List Str).length = 3 from rfl] at z
    rw [ez, sb]
    have m1 : b.length * sb d ≤ 4 * sb d := Nat.mul_le_mul_right _ (by omega)
    have := sb_ge d
    omega
theorem mades_show {G : Str → List Int → Prop} {R : Int → Prop} (hG : ∀ w as, G w as → Short w as) (hR : ∀ k, R k → k.natAbs < 2 ^ 1000) : ∀ (b : List Tr) (l d : Nat), l ≤ 8 → mades G R b l d →
    PyData.showableAll (datTs b) = true ∧ PyData.hasDictAll (datTs b) = false ∧ PyData.depthAll (datTs b) ≤ 2 * d + 1 ∧ ((PyData.shownAll (datTs b)).map (·.length)).sum ≤ b.length * sb d ∧ (PyData.shownAll (datTs b)).length = b.length
  | [], l, d, _, _ => by
    rw [datTs]
    exact ⟨by rw [PyData.showableAll], by rw [PyData.hasDictAll], by rw [PyData.depthAll]; exact Nat.zero_le _, by rw [PyData.shownAll]; exact Nat.zero_le _, by rw [PyData.shownAll]; rfl⟩
  | t :: r, l, d, hl, h => by
    rw [mades] at h
    obtain ⟨a1, a2, a3, a4⟩ := Tr.made_show hG hR t l d hl h.1
    obtain ⟨b1, b2, b3, b4, b5⟩ := mades_show hG hR r l d hl h.2
    rw [datTs]
    refine ⟨by rw [PyData.showableAll, a1, b1]; rfl, by rw [PyData.hasDictAll, a2, b2]; rfl, by rw [PyData.depthAll]; omega, ?_, by rw [PyData.shownAll, List.length_cons, b5, List.length_cons]⟩
    rw [PyData.shownAll, List.map_cons, List.sum_cons, List.length_cons, Nat.succ_mul]
    omega
end
/-! ### reads among what is executed -/
def rc (E : List Tr) : Int := (((E.map Tr.word).count ("read" : Str) : Nat) : Int)
theorem rc_nil : rc [] = 0 := rfl
theorem rc_append (a b : List Tr) : rc (a ++ b) = rc a + rc b := by
  unfold rc
  rw [List.map_append, List.count_append, Int.natCast_add]
theorem rc_exs {b : List Tr} {n : Nat} (h : wfs b n) : rc (exs b) = cnts "read" b := exs_cnt "read" b n h
theorem rc_ex {t : Tr} {n : Nat} (h : t.wf n) : rc t.ex = t.cnt "read" := Tr.ex_cnt "read" t n h
theorem rc_flat (xs : List Tr) (n : Nat) : rc (List.replicate n xs).flatten = n * rc xs := by
  unfold rc
  rw [count_flat, Int.natCast_mul]
theorem rc_loop (E : List Tr) (k m : Nat) (hE : 0 < E.length) (hm : m < k * E.length) : rc (((List.replicate k E).flatten).take m) = ((m / E.length : Nat) : Int) * rc E + rc (E.take (m % E.length)) := by
  have hd := Nat.div_add_mod m E.length
  have hr := Nat.mod_lt m hE
  have ht : m / E.length < k := (Nat.div_lt_iff_lt_mul hE).mpr hm
  generalize m / E.length = t at hd ht
  generalize m % E.length = r at hd hr
  rw [← hd, Nat.mul_comm, take_flat E k t r ht (Nat.le_of_lt hr), rc_append, rc_flat]
theorem rc_nn (E : List Tr) : 0 ≤ rc E := Int.natCast_nonneg _
theorem rc_le (E : List Tr) : rc E ≤ E.length := by
  unfold rc
  have := List.count_le_length (a := ("read" : Str)) (l := E.map Tr.word)
  rw [List.length_map] at this
  omega
def spRB (K : PySem.W.Frag) (n : Nat) : Sp := fun vs H Q _ => ∃ (v : V) (b : List Tr) (m : Int), vs = [v, .int m] ∧ BodyAt K H b v ∧ okB n b ∧ 0 ≤ m ∧ ∀ H', Same H H' → Q (.int (rc ((exs b).take m.toNat))) H'
def spRW (K : PySem.W.Frag) (n : Nat) : Sp := fun vs H Q _ => ∃ (v : V) (t : Tr) (m : Int), vs = [v, .int m] ∧ TrAt K H t v ∧ okB (n + 1) [t] ∧ 0 ≤ m ∧ m < t.len ∧ ∀ H', Same H H' → Q (.int (rc (t.ex.take m.toNat))) H'
end Lj
set_option Elab.async false
set_option linter.all false
set_option maxRecDepth 100000
namespace Lj
open PySem PySem.Spec PyProof.Rows L2
theorem wfs_take {b : List Tr} {n i : Nat} (h : wfs b n) : wfs (b.take i) n := wfs_all fun t m => by
  obtain ⟨j, hj, e⟩ := List.mem_iff_getElem.mp (List.mem_of_mem_take m)
  exact wfs_get (i := j) h (by rw [List.getElem?_eq_getElem hj, e])
theorem flat_takeL {b : List Tr} {i : Nat} {t : Tr} (e : b[i]? = some t) : exs (b.take (i + 1)) = exs (b.take i) ++ t.ex := by
  rw [exs_map, exs_map, map_next e, List.flatten_append, List.flatten_cons, List.flatten_nil, List.append_nil]
theorem lens_nextL {b : List Tr} {i : Nat} {t : Tr} (e : b[i]? = some t) : lens (b.take (i + 1)) = lens (b.take i) + t.len := by rw [lens_map, lens_map, sum_next e]
theorem exs_split (b : List Tr) (i : Nat) : exs b = exs (b.take i) ++ exs (b.drop i) := by rw [exs_map, exs_map, exs_map, ← List.flatten_append, ← List.map_append, List.take_append_drop]
theorem lens_split (b : List Tr) (i : Nat) : lens b = lens (b.take i) + lens (b.drop i) := by rw [lens_map, lens_map, lens_map, ← List.sum_append, ← List.map_append, List.take_append_drop]
theorem wfs_drop {b : List Tr} {n i : Nat} (h : wfs b n) : wfs (b.drop i) n := wfs_all fun t m => by
  obtain ⟨j, hj, e⟩ := List.mem_iff_getElem.mp (List.mem_of_mem_drop m)
  exact wfs_get (i := j) h (by rw [List.getElem?_eq_getElem hj, e])
/-! ### paths -/
/-- ps leads into b to the instruction t, the step st of b is the step r of t -/
inductive PT : List Tr → List Int → Tr → Int → Int → Prop
  | here {b : List Tr} {i : Nat} {t : Tr} {r : Int} (e : b[i]? = some t) : PT b [(i : Int)] t r (lens (b.take i) + r)
  | into {b b' : List Tr} {i : Nat} {k turn r st : Int} {t : Tr} {ps : List Int} (e : b[i]? = some (.loop k b')) (h0 : 0 ≤ turn) (h1 : turn < k) (p : PT b' ps t r st) : PT b ((i : Int) :: turn :: ps) t r (lens (b.take i) + (turn * lens b' + st))
theorem PT.deeper {b : List Tr} {ps : List Int} {t : Tr} {r st : Int} (p : PT b ps t r st) : ∀ {k turn r' : Int} {b' : List Tr} {j : Nat} {t' : Tr}, t = .loop k b' → 0 ≤ turn → turn < k → b'[j]? = some t' → r = turn * lens b' + (lens (b'.take j) + r') → PT b (ps ++ [turn, (j : Int)]) t' r' st := by
  induction p with
  | here e =>
    intro k turn r' b' j t' et h0 h1 ej er
    subst et er
    exact .into e h0 h1 (.here ej)
  | into e h0 h1 p ih =>
    intro k turn r' b' j t' et g0 g1 ej er
    exact .into e h0 h1 (ih et g0 g1 ej er)
theorem get_flat {α : Type} (E : List α) (k t r : Nat) (ht : t < k) (hr : r < E.length) : ((List.replicate k E).flatten)[t * E.length + r]? = E[r]? := by
  have h1 := take_flat E k t (r + 1) ht hr
  have h2 : (((List.replicate k E).flatten).take (t * E.length + (r + 1)))[t * E.length + r]? = ((List.replicate t E).flatten ++ E.take (r + 1))[t * E.length + r]? := by rw [h1]
  rw [List.getElem?_take_of_lt (by omega), List.getElem?_append_right (by rw [flat_len]; omega), flat_len, Nat.add_sub_cancel_left, List.getElem?_take_of_lt (by omega)] at h2
  exact h2
theorem PT.step {b : List Tr} {ps : List Int} {t : Tr} {r st : Int} (p : PT b ps t r st) : ∀ {n : Nat}, wfs b n → 0 ≤ r → r < t.len → 0 ≤ st ∧ st < lens b ∧ (exs b)[st.toNat]? = t.ex[r.toNat]? := by
  induction p with
  | @here b i t r e =>
    intro n h r0 r1
    have el := exs_len (b.take i) n (wfs_take h)
    have tl := Tr.ex_len t n (wfs_get h e)
    have l0 := (lens_bd _ n (wfs_take (i := i) h)).1
    have l2 := lens_nextL e
    have l3 := lens_split b (i + 1)
    have l4 := (lens_bd _ n (wfs_drop (i := i + 1) h)).1
    refine ⟨by omega, by omega, ?_⟩
    rw [exs_split b (i + 1), flat_takeL e, List.append_assoc, List.getElem?_append_right (by omega), List.getElem?_append_left (by omega)]
    congr 1
    omega
  | @into b b' i k turn r st t ps e h0 h1 p ih =>
    intro n h r0 r1
    have wt := wfs_get h e
    cases n with
    | zero => rw [Tr.wf] at wt; exact wt.elim
    | succ n =>
      have wt2 := wt
      rw [Tr.wf] at wt
      obtain ⟨s0, s1, s2⟩ := ih wt.2.2.2 r0 r1
      have el := exs_len (b.take i) _ (wfs_take h)
      have eb := exs_len b' n wt.2.2.2
      have tl := Tr.ex_len (.loop k b') _ wt2
      have l0 := (lens_bd _ _ (wfs_take (i := i) h)).1
      have l2 := lens_nextL e
      have l3 := lens_split b (i + 1)
      have l4 := (lens_bd _ _ (wfs_drop (i := i + 1) h)).1
      rw [Tr.len] at l2 tl
      have m0 : 0 ≤ turn * lens b' := Int.mul_nonneg h0 (by omega)
      have m1 : turn * lens b' + lens b' ≤ k * lens b' := by
        have := Int.mul_le_mul_of_nonneg_right (show turn + 1 ≤ k by omega) (show 0 ≤ lens b' by omega)
        rw [Int.add_mul, Int.one_mul] at this
        exact this
      refine ⟨by omega, by omega, ?_⟩
      rw [exs_split b (i + 1), flat_takeL e, List.append_assoc, List.getElem?_append_right (by omega), List.getElem?_append_left (by omega), ← s2, Tr.ex]
      have ix : (lens (b.take i) + (turn * lens b' + st)).toNat - (exs (b.take i)).length = turn.toNat * (exs b').length + st.toNat := by
        have : ((turn.toNat * (exs b').length : Nat) : Int) = turn * lens b' := by
          rw [Int.natCast_mul, eb]
          congr 1
          omega
        omega
      rw [ix]
      exact get_flat (exs b') k.toNat turn.toNat st.toNat (by omega) (by omega)
/-! ### slices of bodies -/
theorem TrsAt.take {K : PySem.W.Frag} {H : Hp} : ∀ {b : List Tr} {vs : List V} (i : Nat), TrsAt K H b vs → TrsAt K H (b.take i) (vs.take i)
  | b, vs, 0, _ => TrsAt.nil
  | [], vs, i + 1, h => by
    rw [TrsAt] at h
    subst h
    exact TrsAt.nil
  | t :: r, vs, i + 1, h => by
    rw [TrsAt] at h
    obtain ⟨v, us, rfl, a, k⟩ := h
    rw [List.take_succ_cons, List.take_succ_cons, TrsAt]
    exact ⟨v, _, rfl, a, TrsAt.take i k⟩
theorem TrsAt.drop {K : PySem.W.Frag} {H : Hp} : ∀ {b : List Tr} {vs : List V} (i : Nat), TrsAt K H b vs → TrsAt K H (b.drop i) (vs.drop i)
  | b, vs, 0, h => h
  | [], vs, i + 1, h => by
    rw [TrsAt] at h
    subst h
    exact TrsAt.nil
  | t :: r, vs, i + 1, h => by
    rw [TrsAt] at h
    obtain ⟨v, us, rfl, a, k⟩ := h
    exact TrsAt.drop i k
theorem cut_to (xs : List V) (i : Nat) : cutV xs none (some (i : Int)) = xs.take i := by
  unfold cutV
  rw [HT.sIx_none, HT.sIx_nat, List.drop_zero, Nat.sub_zero]
  by_cases h : i ≤ xs.length
  · rw [Nat.min_eq_left h]
  · rw [Nat.min_eq_right (by omega), List.take_length, List.take_of_length_le (by omega)]
theorem cut_mid (xs : List V) (i : Nat) (h : i < xs.length) : cutV xs (some (i : Int)) (some ((i : Int) + 1)) = (xs.drop i).take 1 := by
  unfold cutV
  rw [HT.sIx_nat, show ((i : Int) + 1) = ((i + 1 : Nat) : Int) from rfl, HT.sIx_nat, Nat.min_eq_left (Nat.le_of_lt h), Nat.min_eq_left h]
  congr 1
  omega
theorem cut_whole (xs : List V) (lo hi : Option Int) (h : HT.sIx xs.length 0 lo = 0 ∧ HT.sIx xs.length xs.length hi = xs.length) : cutV xs lo hi = xs := by
  unfold cutV
  rw [h.1, h.2, List.drop_zero, Nat.sub_zero, List.take_length]
theorem body_cut {K : PySem.W.Frag} {H : Hp} {b c : List Tr} {a : Addr} {vs : List V} {lo hi : Option Int} {Q : V → Hp → Prop} (sq : SqT K H a vs) (tr : TrsAt K H b vs) (tc : TrsAt K H c (cutV vs lo hi)) (q : ∀ v' H', Same H H' → BodyAt K H' c v' → Q v' H') : rSlA K (.ref a) lo hi H Q := by
  refine ⟨a, vs, rfl, sq, fun h => ?_, fun _ p np => ?_⟩
  · rw [cut_whole vs lo hi h] at tc
    exact q _ H (Same.refl H) ⟨a, vs, rfl, sq, tc⟩
  · exact q _ _ (same_new np) ⟨p, _, rfl, SqT.of upd_same, TrsAt.kt (Kt.same (same_new np)) _ _ tc⟩
/-! ### whether a register is assigned at all -/
mutual
def Tr.nam (x : Int) : Tr → Bool
  | .op w as => decide (x ∈ asgs w as)
  | .loop k b => decide (0 < k) && nams x b
def nams (x : Int) : List Tr → Bool
  | [] => false
  | t :: r => t.nam x || nams x r
end
theorem la_none (x : Int) : ∀ {E : List Tr}, la x E = none ↔ ∀ t ∈ E, t.asg x = false
  | [] => by
    constructor
    · intro _ t m
      cases m
    · intro _
      rfl
  | t :: r => by
    have ih := la_none x (E := r)
    show (match la x r with | some j => some (j + 1) | none => if t.asg x = true then some 0 else none) = none ↔ _
    cases h : la x r with
    | some j =>
      constructor
      · intro z
        cases z
      · intro z
        have := ih.mpr fun u m => z u (List.mem_cons_of_mem _ m)
        rw [h] at this
        cases this
    | none =>
      have h2 := ih.mp h
      show (if t.asg x = true then some 0 else none) = none ↔ _
      by_cases g : t.asg x = true
      · rw [if_pos g]
        constructor
        · intro z
          cases z
        · intro z
          rw [z t List.mem_cons_self] at g
          cases g
      · rw [if_neg g]
        constructor
        · intro _ u m
          rcases List.mem_cons.mp m with rfl | m
          · exact Bool.eq_false_iff.mpr g
          · exact h2 u m
        · intro _
          rfl
mutual
theorem Tr.nam_iff (x : Int) : ∀ (t : Tr) (n : Nat), t.wf n → (t.nam x = false ↔ ∀ u ∈ t.ex, u.asg x = false)
  | .op w as, n, _ => by
    rw [Tr.nam, Tr.ex]
    constructor
    · intro h u m
      rw [List.mem_singleton.mp m]
      exact h
    · intro h
      exact h _ (List.mem_singleton.mpr rfl)
  | .loop k b, 0, h => by rw [Tr.wf] at h; exact h.elim
  | .loop k b, n + 1, h => by
    rw [Tr.wf] at h
    have ih := nams_iff x b n h.2.2.2
    rw [Tr.nam, Tr.ex]
    constructor
    · intro z u m
      obtain ⟨xs, m1, m2⟩ := List.mem_flatten.mp m
      obtain ⟨m3, m4⟩ := List.mem_replicate.mp m1
      rw [m4] at m2
      rw [decide_eq_true (show 0 < k by omega), Bool.true_and] at z
      exact ih.mp z u m2
    · intro z
      by_cases g : 0 < k
      · rw [decide_eq_true g, Bool.true_and]
        refine ih.mpr fun u m => z u (List.mem_flatten.mpr ⟨exs b, List.mem_replicate.mpr ⟨by omega, rfl⟩, m⟩)
      · rw [decide_eq_false g, Bool.false_and]
theorem nams_iff (x : Int) : ∀ (b : List Tr) (n : Nat), wfs b n → (nams x b = false ↔ ∀ u ∈ exs b, u.asg x = false)
  | [], n, _ => by
    rw [nams, exs]
    constructor
    · intro _ u m
      cases m
    · intro _
      rfl
  | t :: r, n, h => by
    rw [wfs] at h
    have h1 := Tr.nam_iff x t n h.1
    have h2 := nams_iff x r n h.2
    rw [nams, exs, Bool.or_eq_false_iff, h1, h2]
    constructor
    · rintro ⟨a, b⟩ u m
      rcases List.mem_append.mp m with m | m
      · exact a u m
      · exact b u m
    · intro z
      exact ⟨fun u m => z u (List.mem_append.mpr (.inl m)), fun u m => z u (List.mem_append.mpr (.inr m))⟩
end
theorem la_get (x : Int) : ∀ {E : List Tr} {j : Nat}, la x E = some j → ∃ t, E[j]? = some t ∧ t.asg x = true
  | [], j, h => by cases h
  | t :: r, j, h => by
    have h : (match la x r with | some j => some (j + 1) | none => if t.asg x = true then some 0 else none) = some j := h
    cases e : la x r with
    | some i =>
      rw [e] at h
      cases h
      obtain ⟨u, h1, h2⟩ := la_get x e
      exact ⟨u, h1, h2⟩
    | none =>
      rw [e] at h
      have h : (if t.asg x = true then some 0 else none) = some j := h
      by_cases g : t.asg x = true
      · rw [if_pos g] at h
        cases h
        exact ⟨t, rfl, g⟩
      · rw [if_neg g] at h
        cases h
theorem la_ltL (x : Int) {E : List Tr} {j : Nat} (h : la x E = some j) : j < E.length := by
  obtain ⟨t, h1, _⟩ := la_get x h
  exact (List.getElem?_eq_some_iff.mp h1).1
/-- just behind a step that assigns it, it is this step -/
theorem la_at (x : Int) {E : List Tr} {j : Nat} {t : Tr} (e : E[j]? = some t) (a : t.asg x = true) : la x (E.take (j + 1)) = some j := by
  rw [List.take_add_one, e, la_append]
  have : la x (some t).toList = some 0 := by
    show (if t.asg x = true then some 0 else none) = some 0
    rw [if_pos a]
  rw [this]
  have l := (List.getElem?_eq_some_iff.mp e).1
  show some ((E.take j).length + 0) = some j
  rw [List.length_take]
  congr 1
  omega
end Lj
namespace Lj
open PySem PySem.Spec PyProof.Rows L2
mutual
theorem Tr.args_in : ∀ (t : Tr) (n : Nat), t.wf n → t.hasArgs → ∀ u ∈ t.ex, u.hasArgs
  | .op w as, n, _, h => by
    rw [Tr.ex]
    intro u m
    rw [List.mem_singleton.mp m]
    exact h
  | .loop k b, 0, h, _ => by rw [Tr.wf] at h; exact h.elim
  | .loop k b, n + 1, h, a => by
    rw [Tr.wf] at h
    rw [Tr.hasArgs] at a
    rw [Tr.ex]
    intro u m
    obtain ⟨xs, m1, m2⟩ := List.mem_flatten.mp m
    rw [(List.mem_replicate.mp m1).2] at m2
    exact exs_args b n h.2.2.2 a u m2
theorem exs_args : ∀ (b : List Tr) (n : Nat), wfs b n → haveArgs b → ∀ u ∈ exs b, u.hasArgs
  | [], _, _, _ => by rw [exs]; intro u m; cases m
  | t :: r, n, h, a => by
    rw [wfs] at h
    rw [haveArgs] at a
    rw [exs]
    intro u m
    rcases List.mem_append.mp m with m | m
    · exact Tr.args_in t n h.1 a.1 u m
    · exact exs_args r n h.2 a.2 u m
end
theorem args_in {b : List Tr} {n j : Nat} {z : Str} {as : List Int} (a : haveArgs b) (h : wfs b n) (e : (exs b)[j]? = some (.op z as)) : as ≠ [] := by
  have := exs_args b n h a _ (List.mem_of_getElem? e)
  rw [Tr.hasArgs] at this
  exact this
end Lj
set_option Elab.async false
set_option linter.all false
set_option maxRecDepth 100000
namespace Lj
open PySem PySem.Spec PyProof.Rows L2
section
variable {X : Cx} {K : PySem.W.Frag}
theorem sl_tupAK (h : X.K = K) : SlR X (rSlA K) := h ▸ sl_tupA
end
mutual
/-- G of each instruction but loops -/
def Tr.allG (G : Str → List Int → Prop) : Tr → Prop
  | .op w as => G w as
  | .loop _ b => allGs G b
def allGs (G : Str → List Int → Prop) : List Tr → Prop
  | [] => True
  | t :: r => t.allG G ∧ allGs G r
end
theorem allGs_get {G : Str → List Int → Prop} : ∀ {b : List Tr} {i : Nat} {t : Tr}, allGs G b → b[i]? = some t → t.allG G
  | [], _, _, _, e => by simp at e
  | t :: r, 0, u, h, e => by
    cases e
    rw [allGs] at h
    exact h.1
  | t :: r, i + 1, u, h, e => by
    rw [allGs] at h
    exact allGs_get (i := i) h.2 e
theorem allGs_mem {G : Str → List Int → Prop} : ∀ {b : List Tr}, (∀ t ∈ b, t.allG G) → allGs G b
  | [], _ => by rw [allGs]; trivial
  | t :: r, h => by
    rw [allGs]
    exact ⟨h t List.mem_cons_self, allGs_mem fun u m => h u (List.mem_cons_of_mem _ m)⟩
mutual
theorem Tr.made_allG {G : Str → List Int → Prop} {R : Int → Prop} : ∀ (t : Tr) (l d : Nat), t.made G R l d → t.allG G
  | .op w as, l, d, h => by
    rw [Tr.made] at h
    rw [Tr.allG]
    exact h
  | .loop k b, l, 0, h => by rw [Tr.made] at h; exact h.elim
  | .loop k b, l, d + 1, h => by
    rw [Tr.made] at h
    rw [Tr.allG]
    exact mades_allG b (l / 2) d h.2.2
theorem mades_allG {G : Str → List Int → Prop} {R : Int → Prop} : ∀ (b : List Tr) (l d : Nat), mades G R b l d → allGs G b
  | [], _, _, _ => by rw [allGs]; trivial
  | t :: r, l, d, h => by
    rw [mades] at h
    rw [allGs]
    exact ⟨Tr.made_allG t l d h.1, mades_allG r l d h.2⟩
end
theorem PT.good {G : Str → List Int → Prop} {b : List Tr} {ps : List Int} {t : Tr} {r st : Int} (p : PT b ps t r st) : allGs G b → t.allG G := by
  induction p with
  | here e => exact fun h => allGs_get h e
  | into e h0 h1 p ih =>
    intro h
    have := allGs_get h e
    rw [Tr.allG] at this
    exact ih this
theorem idx_unique {b : List Tr} {n i j : Nat} {t u : Tr} {x y : Int} (h : wfs b n) (ei : b[i]? = some t) (ej : b[j]? = some u) (x0 : 0 ≤ x) (x1 : x < t.len) (y0 : 0 ≤ y) (y1 : y < u.len) (e : lens (b.take i) + x = lens (b.take j) + y) : i = j := by
  have mono : ∀ {i j : Nat}, i ≤ j → lens (b.take i) ≤ lens (b.take j) := fun {i j} hij => by
    have e2 : b.take i = (b.take j).take i := by rw [List.take_take, Nat.min_eq_left hij]
    have := lens_split (b.take j) i
    rw [← e2] at this
    have h2 := (lens_bd _ n (wfs_drop (i := i) (wfs_take (i := j) h))).1
    omega
  have li := lens_nextL ei
  have lj := lens_nextL ej
  by_cases g : i < j
  · have := mono (show i + 1 ≤ j by omega)
    omega
  · by_cases g2 : j < i
    · have := mono (show j + 1 ≤ i by omega)
      omega
    · omega
/-- at most one path for a step -/
theorem PT.unique {b : List Tr} {ps : List Int} {t : Tr} {r st : Int} (p : PT b ps t r st) : ∀ {n : Nat} {ps2 : List Int} {z z2 : Str} {as as2 : List Int}, wfs b n → t = .op z as → r = 0 → PT b ps2 (.op z2 as2) 0 st → ps2 = ps ∧ Tr.op z2 as2 = .op z as := by
  induction p with
  | @here b i t r e =>
    intro n ps2 z z2 as as2 h et er p2
    subst et er
    generalize hs : lens (b.take i) + 0 = st at p2
    generalize ht : Tr.op z2 as2 = t2 at p2
    generalize hr : (0 : Int) = r2 at p2
    cases p2 with
    | @here _ j _ _ e2 =>
      subst ht hr
      have ij := idx_unique h e e2 (Int.le_refl 0) (by rw [Tr.len]; decide) (Int.le_refl 0) (by rw [Tr.len]; decide) hs
      subst ij
      rw [e] at e2
      cases e2
      exact ⟨rfl, rfl⟩
    | @into _ b' j k turn _ st' _ ps' e2 h0 h1 p' =>
      subst ht hr
      have wt := wfs_get h e2
      cases n with
      | zero => rw [Tr.wf] at wt; exact wt.elim
      | succ n =>
        rw [Tr.wf] at wt
        obtain ⟨s0, s1, _⟩ := p'.step wt.2.2.2 (Int.le_refl 0) (by rw [Tr.len]; decide)
        have m0 : 0 ≤ turn * lens b' := Int.mul_nonneg h0 (by omega)
        have m1 : turn * lens b' + lens b' ≤ k * lens b' := by
          have := Int.mul_le_mul_of_nonneg_right (show turn + 1 ≤ k by omega) (show 0 ≤ lens b' by omega)
          rw [Int.add_mul, Int.one_mul] at this
          exact this
        have ij := idx_unique h e e2 (Int.le_refl 0) (by rw [Tr.len]; decide) (show 0 ≤ turn * lens b' + st' by omega) (by rw [Tr.len]; omega) hs
        subst ij
        rw [e] at e2
        cases e2
  | @into b b' i k turn r st t ps e h0 h1 p ih =>
    intro n ps2 z z2 as as2 h et er p2
    have wt := wfs_get h e
    cases n with
    | zero => rw [Tr.wf] at wt; exact wt.elim
    | succ n =>
      rw [Tr.wf] at wt
      have p0 := p
      subst et er
      obtain ⟨s0, s1, _⟩ := p0.step wt.2.2.2 (Int.le_refl 0) (by rw [Tr.len]; decide)
      have m0 : 0 ≤ turn * lens b' := Int.mul_nonneg h0 (by omega)
      have m1 : turn * lens b' + lens b' ≤ k * lens b' := by
        have := Int.mul_le_mul_of_nonneg_right (show turn + 1 ≤ k by omega) (show 0 ≤ lens b' by omega)
        rw [Int.add_mul, Int.one_mul] at this
        exact this
      generalize hs : lens (b.take i) + (turn * lens b' + st) = st2 at p2
      generalize ht : Tr.op z2 as2 = t2 at p2
      generalize hr : (0 : Int) = r2 at p2
      cases p2 with
      | @here _ j _ _ e2 =>
        subst ht hr
        have ij := idx_unique h e e2 (show 0 ≤ turn * lens b' + st by omega) (by rw [Tr.len]; omega) (Int.le_refl 0) (by rw [Tr.len]; decide) hs
        subst ij
        rw [e] at e2
        cases e2
      | @into _ b2 j k2 turn2 _ st' _ ps' e2 g0 g1 p' =>
        subst ht hr
        have wt2 := wfs_get h e2
        rw [Tr.wf] at wt2
        obtain ⟨q0, q1, _⟩ := p'.step wt2.2.2.2 (Int.le_refl 0) (by rw [Tr.len]; decide)
        have n0 : 0 ≤ turn2 * lens b2 := Int.mul_nonneg g0 (by omega)
        have n1 : turn2 * lens b2 + lens b2 ≤ k2 * lens b2 := by
          have := Int.mul_le_mul_of_nonneg_right (show turn2 + 1 ≤ k2 by omega) (show 0 ≤ lens b2 by omega)
          rw [Int.add_mul, Int.one_mul] at this
          exact this
        have ij := idx_unique h e e2 (show 0 ≤ turn * lens b' + st by omega) (by rw [Tr.len]; omega) (show 0 ≤ turn2 * lens b2 + st' by omega) (by rw [Tr.len]; omega) hs
        subst ij
        rw [e] at e2
        cases e2
        have et : turn = turn2 := by
          have hs2 : turn * lens b' + st = turn2 * lens b' + st' := by omega
          by_cases g : turn < turn2
          · have := Int.mul_le_mul_of_nonneg_right (show turn + 1 ≤ turn2 by omega) (show 0 ≤ lens b' by omega)
            rw [Int.add_mul, Int.one_mul] at this
            omega
          · by_cases g2 : turn2 < turn
            · have := Int.mul_le_mul_of_nonneg_right (show turn2 + 1 ≤ turn by omega) (show 0 ≤ lens b' by omega)
              rw [Int.add_mul, Int.one_mul] at this
              omega
            · omega
        subst et
        have es : st' = st := by omega
        subst es
        obtain ⟨i1, i2⟩ := ih wt.2.2.2 rfl rfl p'
        exact ⟨by rw [i1], i2⟩
theorem PT.ne {b : List Tr} {ps : List Int} {t : Tr} {r st : Int} (p : PT b ps t r st) : ps ≠ [] := by
  cases p <;> intro z <;> cases z
theorem cut_two (x y : V) (xs : List V) : cutV (x :: y :: xs) (some 2) none = xs := by
  unfold cutV
  rw [show HT.sIx (x :: y :: xs).length 0 (some 2) = min 2 (x :: y :: xs).length from HT.sIx_nat _ _ 2, HT.sIx_none, List.length_cons, List.length_cons, show min 2 (xs.length + 1 + 1) = 2 by omega]
  show xs.take (xs.length + 1 + 1 - 2) = xs
  rw [show xs.length + 1 + 1 - 2 = xs.length by omega]
  exact List.take_length
theorem cut_two_ne (x y : V) (xs : List V) : ¬ (HT.sIx (x :: y :: xs).length 0 (some 2) = 0 ∧ HT.sIx (x :: y :: xs).length (x :: y :: xs).length none = (x :: y :: xs).length) := by
  rw [show HT.sIx (x :: y :: xs).length 0 (some 2) = min 2 (x :: y :: xs).length from HT.sIx_nat _ _ 2, List.length_cons, List.length_cons, show min 2 (xs.length + 1 + 1) = 2 by omega]
  rintro ⟨h, _⟩
  cases h
/-- numbers of a path are bounded -/
theorem PT.small {b : List Tr} {ps : List Int} {t : Tr} {r st : Int} (p : PT b ps t r st) : ∀ {n : Nat}, wfs b n → b.length ≤ 1000 → ∀ m ∈ ps, 0 ≤ m ∧ m ≤ 10 ^ 18 := by
  induction p with
  | @here b i t r e =>
    intro n h hl m k
    have := (List.getElem?_eq_some_iff.mp e).1
    rw [List.mem_singleton.mp k]
    omega
  | @into b b' i k turn r st t ps e h0 h1 p ih =>
    intro n h hl m k'
    have := (List.getElem?_eq_some_iff.mp e).1
    have wt := wfs_get h e
    cases n with
    | zero => rw [Tr.wf] at wt; exact wt.elim
    | succ n =>
      rw [Tr.wf] at wt
      rcases List.mem_cons.mp k' with rfl | k'
      · omega
      · rcases List.mem_cons.mp k' with rfl | k'
        · omega
        · exact ih wt.2.2.2 wt.2.2.1 m k'
/-- the pair of a path and an instruction, shown -/
theorem pair_show {ps : List Int} {z : Str} {as : List Int} (hp : ∀ m ∈ ps, 0 ≤ m ∧ m ≤ 10 ^ 18) (hl : ps.length ≤ 100) (h : Short z as) : (PyData.tuple [.tuple (ps.map .int), Tr.datT (.op z as)]).showable = true ∧ (PyData.tuple [.tuple (ps.map .int), Tr.datT (.op z as)]).hasDict = false ∧
    (PyData.tuple [.tuple (ps.map .int), Tr.datT (.op z as)]).depth ≤ 64 ∧ (PyData.tuple [.tuple (ps.map .int), Tr.datT (.op z as)]).shown.length ≤ sizeLine := by
  have big : (10 ^ 18 : Nat) < 2 ^ 1000 := by decide +kernel
  obtain ⟨a1, a2, a3, a4, a5⟩ := leaf_all (leaf_ints (ns := ps) fun m k => by have := hp m k; omega)
  obtain ⟨b1, b2, b3, b4⟩ := Tr.made_show (G := Short) (R := fun _ => False) (fun _ _ h => h) (fun _ h => h.elim) (.op z as) 0 0 (by decide) (by rw [Tr.made]; exact h)
  have y := PySem.tupleText_len_le (PyData.shownAll (ps.map PyData.int))
  have x := PySem.tupleText_len_le [tupleText (PyData.shownAll (ps.map PyData.int)), PyData.shown (Tr.datT (.op z as))]
  rw [List.map_cons, List.map_cons, List.map_nil, List.sum_cons, List.sum_cons, List.sum_nil] at x
  rw [show ([tupleText (PyData.shownAll (ps.map PyData.int)), PyData.shown (Tr.datT (.op z as))] : List Str).length = 2 from rfl] at x
  rw [List.length_map] at a4 a5
  refine ⟨by rw [PyData.showable, PyData.showableAll, PyData.showable, a1, PyData.showableAll, b1, PyData.showableAll]; rfl, by rw [PyData.hasDict, PyData.hasDictAll, PyData.hasDict, a2, PyData.hasDictAll, b2, PyData.hasDictAll]; rfl,
    by rw [PyData.depth, PyData.depthAll, PyData.depth, a3, PyData.depthAll, PyData.depthAll]; omega, ?_⟩
  rw [PyData.shown, PyData.shownAll, PyData.shown, PyData.shownAll, PyData.shownAll, sizeLine_eq]
  have : sb 0 = 20000 := rfl
  omega
end Lj
set_option Elab.async false
set_option linter.all false
set_option maxRecDepth 100000
namespace K08
open PySem PySem.Spec PyProof.Rows L2 Lj
def topS (i : Nat) : Stmt := PySem.Challenge.pw_leastjournal_k08_whole_steps_of_great_lo.main.body.getD i (.Pass ⟨0, 0, 0, 0⟩)
abbrev sIs_between : Stmt := topS 4
theorem scIs_between : FnScope ["value", "low", "high"] ["value", "low", "high"] (defScope sIs_between) := ⟨rfl, rfl, rfl, by decide +kernel, rfl, by decide +kernel, by decide +kernel⟩
abbrev sStep_count : Stmt := topS 6
theorem scStep_count : FnScope ["program", "instruction"] ["program"] (defScope sStep_count) := ⟨rfl, rfl, rfl, by decide +kernel, rfl, by decide +kernel, by decide +kernel⟩
abbrev sLength : Stmt := topS 7
theorem scLength : FnScope ["instruction"] ["instruction"] (defScope sLength) := ⟨rfl, rfl, rfl, by decide +kernel, rfl, by decide +kernel, by decide +kernel⟩
abbrev sLocate : Stmt := topS 8
theorem scLocate : FnScope ["program", "step", "index", "rest", "path", "instruction", "body", "turn"] ["program", "step"] (defScope sLocate) := ⟨rfl, rfl, rfl, by decide +kernel, rfl, by decide +kernel, by decide +kernel⟩
abbrev sPlace : Stmt := topS 9
theorem scPlace : FnScope ["program", "step", "index", "rest"] ["program", "step"] (defScope sPlace) := ⟨rfl, rfl, rfl, by decide +kernel, rfl, by decide +kernel, by decide +kernel⟩
abbrev sUrn : Stmt := topS 11
theorem scUrn : FnScope ["_law_script", "_law_k", "_law_cell", "_law_own"] ["_law_script", "_law_k"] (defScope sUrn) := ⟨rfl, rfl, rfl, by decide +kernel, rfl, by decide +kernel, by decide +kernel⟩
abbrev sTake : Stmt := topS 12
theorem scTake : FnScope ["_law_urn_here", "_law_below", "_law_digit", "_law_mixed"] ["_law_urn_here", "_law_below"] (defScope sTake) := ⟨rfl, rfl, rfl, by decide +kernel, rfl, by decide +kernel, by decide +kernel⟩
abbrev sOf : Stmt := topS 13
theorem scOf : FnScope ["_law_urn_here", "_law_items"] ["_law_urn_here", "_law_items"] (defScope sOf) := ⟨rfl, rfl, rfl, by decide +kernel, rfl, by decide +kernel, by decide +kernel⟩
abbrev sPrime : Stmt := topS 14
theorem scPrime : FnScope ["_law_urn_here"] ["_law_urn_here"] (defScope sPrime) := ⟨rfl, rfl, rfl, by decide +kernel, rfl, by decide +kernel, by decide +kernel⟩
abbrev sItem : Stmt := topS 15
theorem scItem : FnScope ["_law_urn_here", "_law_p", "_law_n", "_law_words", "_law_word", "_law_x", "_law_c", "_law_y"] ["_law_urn_here", "_law_p", "_law_n", "_law_words"] (defScope sItem) := ⟨rfl, rfl, rfl, by decide +kernel, rfl, by decide +kernel, by decide +kernel⟩
abbrev sBody : Stmt := topS 16
theorem scBody : FnScope ["_law_urn_here", "_law_p", "_law_n", "_law_words", "_law_length", "_law_deep", "_law_rounds", "_law_found", "_law_turn", "_law_inner"] ["_law_urn_here", "_law_p", "_law_n", "_law_words", "_law_length", "_law_deep", "_law_rounds"] (defScope sBody) := ⟨rfl, rfl, rfl, by decide +kernel, rfl, by decide +kernel, by decide +kernel⟩
abbrev sSteps : Stmt := topS 17
theorem scSteps : FnScope ["_law_program", "_law_item_here"] ["_law_program"] (defScope sSteps) := ⟨rfl, rfl, rfl, by decide +kernel, rfl, by decide +kernel, by decide +kernel⟩
abbrev sNumber : Stmt := topS 18
theorem scNumber : FnScope ["_law_program", "_law_path_here", "_law_index", "_law_found", "_law_inner"] ["_law_program", "_law_path_here"] (defScope sNumber) := ⟨rfl, rfl, rfl, by decide +kernel, rfl, by decide +kernel, by decide +kernel⟩
abbrev sPath : Stmt := topS 19
theorem scPath : FnScope ["_law_urn_here", "_law_program", "_law_index", "_law_some", "_law_rounds", "_law_turn"] ["_law_urn_here", "_law_program"] (defScope sPath) := ⟨rfl, rfl, rfl, by decide +kernel, rfl, by decide +kernel, by decide +kernel⟩
abbrev sItem_at : Stmt := topS 20
theorem scItem_at : FnScope ["_law_program", "_law_path_here"] ["_law_program", "_law_path_here"] (defScope sItem_at) := ⟨rfl, rfl, rfl, by decide +kernel, rfl, by decide +kernel, by decide +kernel⟩
abbrev sRight : Stmt := topS 21
theorem scRight : FnScope ["_law_urn_here", "_law_program", "_law_total", "_law_turn", "_law_path_here", "_law_step", "_law_near", "_law_told"] ["_law_urn_here", "_law_program"] (defScope sRight) := ⟨rfl, rfl, rfl, by decide +kernel, rfl, by decide +kernel, by decide +kernel⟩
abbrev sLaw : Stmt := topS 22
theorem scLaw : FnScope ["_law_script", "_law_k", "_law_urn_here", "_law_p", "_law_n", "_law_turn", "_law_rounds", "_law_words", "_law_most", "_law_program"] ["_law_script"] (defScope sLaw) := ⟨rfl, rfl, rfl, by decide +kernel, rfl, by decide +kernel, by decide +kernel⟩
section
variable {P : Program} {w : World} {K : PySem.W.Frag} {mg : Str → Option Value} {base : Heap}
theorem take_all {α : Type} (b : List α) : b.take b.length = b := List.take_length
/-! ### step_count and length -/
theorem ok_length (M : Bl mg) (F : At K mg "length" sLength ["instruction"]) {n k : Nat} (h : Has P w K mg base k "step_count" ["program"] (spTI K (okB n) lens)) :
    Has P w K mg base (k + 1) "length" ["instruction"] (spII K (fun t => okB (n + 1) [t]) Tr.len) := by
  obtain ⟨fS, fdS, cStep_count⟩ := h
  refine Has.by F scLength (fun vs H Q E h => ?_) (fun f cdv A out s H vs Q E hg hr h => ?_)
  · obtain ⟨v, t, rfl, _⟩ := h
    rfl
  obtain ⟨v, t, rfl, hT, ok, q⟩ := h
  refine ⟨_, (pss_cons (ps_if (pt_cmpR op_eq (pe_ix ix_tup (pv 0) pe_int (fun _ _ => rfl)) pe_str (nomark _))
    (pss_one (ps_ret (pe_op op_mul (pe_ix ix_tup (pv 0) pe_int (fun _ _ => rfl)) (pe_cal cStep_count hg hr (by rfl) (pa_cons (pe_ix ix_tup (pv 0) pe_int (fun _ _ => rfl)) pa_nil)))))
    pss_nil)
  (pss_one (ps_ret pe_int))), ?_⟩
  cases t with
  | op u as =>
    rw [TrAt] at hT
    obtain ⟨a, rfl, sq⟩ := hT
    refine ⟨_, rfl, a, _, 0, .str u, rfl, rfl, sq, at0, rfl, _, rfl, iteN (fun e => okB_op (i := 0) ok rfl (V.str.inj e)) ?_⟩
    exact q H (Same.refl H)
  | loop c b =>
    rw [TrAt] at hT
    obtain ⟨a, d, us, rfl, sq, sq2, r⟩ := hT
    obtain ⟨c0, c1, ok2⟩ := okB_loop (i := 0) ok rfl
    refine ⟨_, rfl, a, _, 0, .str "loop", rfl, rfl, sq, rfl, rfl, _, rfl, iteP rfl ?_⟩
    refine ⟨_, rfl, a, _, 1, .int c, rfl, rfl, sq, rfl, _, rfl, a, _, 2, .ref d, rfl, rfl, sq, rfl, _, b, rfl, ⟨d, us, rfl, sq2, r⟩, ok2, fun H' sm => ?_⟩
    exact ⟨c, _, rfl, rfl, .inl ⟨by omega, by omega⟩, q H' sm⟩
theorem ok_step (M : Bl mg) (F : At K mg "step_count" sStep_count ["program"]) {n k : Nat} (h : Has P w K mg base k "length" ["instruction"] (spII K (fun t => okB (n + 1) [t]) Tr.len)) :
    Has P w K mg base (k + 1) "step_count" ["program"] (spTI K (okB (n + 1)) lens) := by
  obtain ⟨fS, fdS, cLength⟩ := h
  refine Has.by F scStep_count (fun vs H Q E h => ?_) (fun f cdv A out s H vs Q E hg hr h => ?_)
  · obtain ⟨v, t, rfl, _⟩ := h
    rfl
  obtain ⟨v, b, rfl, ⟨c, us, rfl, sq, r⟩, ok, q⟩ := h
  refine ⟨_, (pss_one (ps_ret (pe_callB (cr_sum rfl) (by rfl) M.sum_ (by decide +kernel) (pa_cons (pe_lc (own := [("instruction", 1)]) (g := gName 1) (by rfl) scStep_count.nd (pi_tup (pv 0)) (blkOk_by (own := [("instruction", 1)]) (N := ["program", "instruction"]) (sc := defScope sStep_count) (by decide +kernel)) (fun _ _ _ _ _ => (pg_name (i := 1) scStep_count.nd rfl (.inl rfl))) (fun _ _ _ _ _ => pts_nil) (fun _ _ _ _ _ => (pe_cal cLength hg hr (by rfl) (pa_cons (pv 1) pa_nil)))) pa_nil)))), ?_⟩
  refine ⟨_, rfl, c, rfl, ⟨_, sq⟩, fun D nD => ?_⟩
  refine lc_tup (xs := us) (fun i H' => H' D = some (.lst (((b.take i).map Tr.len).map V.int)) ∧ Same H H') ⟨upd_same, same_new nD⟩ (fun i H' _ h => (Kt.same h.2).sq sq) ?_ ?_
  · rintro i x H' hx ⟨e1, e2⟩
    obtain ⟨t, ht, hT⟩ := r.get hx
    refine ⟨rfl, ?_⟩
    refine ⟨_, rfl, x, t, rfl, TrAt.kt (Kt.same e2) t x hT, ⟨by rw [wfs, wfs]; exact ⟨wfs_get ok.1 ht, trivial⟩, by show 1 ≤ 1000; decide⟩, fun H2 sm => ?_⟩
    refine ⟨_, sm _ _ e1, ?_, ?_, same_upd (e2.trans sm) nD⟩
    · rw [List.length_map, List.length_map, List.length_take]
      exact small1000 (Nat.le_trans (Nat.min_le_right _ _) ok.2)
    · rw [upd_same, map_next ht, List.map_append]
      rfl
  · rintro H' ⟨e1, e2⟩
    rw [r.length, take_all] at e1
    refine ⟨D, _, rfl, SqL.of e1, ?_⟩
    rw [← lens_map]
    exact q H' e2
theorem ok_steps (M : Bl mg) (FL : At K mg "length" sLength ["instruction"]) (FS : At K mg "step_count" sStep_count ["program"]) : ∀ n, Has P w K mg base (2 * n) "step_count" ["program"] (spTI K (okB n) lens)
  | 0 => Has.none FS fun vs H Q E ⟨_, _, _, _, h, _⟩ => h
  | n + 1 => ok_step M FS (ok_length M FL (ok_steps M FL FS n))
end
section
variable {P : Program} {w : World} {K : PySem.W.Frag} {mg : Str → Option Value} {base : Heap}
theorem ok_urn {f : Addr} {fd : FuncData} {k : Nat} (F : Fun K "_law_urn" "_law_urn" sUrn f fd) (ml : mg "len" = none) (ma : mg "abs" = none) (mi : mg "int" = none) :
    FnOk P w K mg base CX0 (k + 1) f fd ["_law_script", "_law_k"] (spUrn K) := by
  refine F.ok scUrn (fun vs H Q E h => ?_) (fun cdv A outer s H vs Q E hr h => ?_)
  · obtain ⟨a, ns, k, rfl, _⟩ := h
    rfl
  obtain ⟨a, ns, k, rfl, hS, h0, h1, q⟩ := h
  refine ⟨_, Evl.pss_cut (ps_set (i := 2) scUrn.nd rfl (.inl rfl) (pe_ifExp (pt_cmpR op_lt (pv 1) (pe_callB call_len_seq (by rfl) ml PySem.boot_len (pa_cons (pv 0) pa_nil)) (nomark _)) (pe_ix ix_list (pv 0) (pv 1) (fun _ _ => rfl)) (pe_op op_add (pe_op op_mul pe_int (pv 1)) pe_int)))
    (pss_cons (ps_set (i := 3) scUrn.nd rfl (.inl rfl) (pe_op op_mul (pe_op op_mod (pe_callB call_abs (by rfl) ma (by decide +kernel) (pa_cons (pv 2) pa_nil)) (pe_callTy call_int_str (by rfl) mi (by decide +kernel) (pa_cons (pe_op op_add_str pe_str (pe_op op_mulS pe_str pe_int)) pa_nil)))
       (pe_callTy call_int1 (by rfl) mi (by decide +kernel) (pa_cons (pe_cmpR op_ge (pe_callB call_abs (by rfl) ma (by decide +kernel) (pa_cons (pv 2) pa_nil)) (pe_op op_pow pe_int pe_int) (nomark _)) pa_nil))))
    (pss_one (ps_ret (pe_lst (pa_cons (pv 3) (pa_cons (pe_op op_mod (pe_op op_mul (pe_op op_add (pe_op op_add (pe_op op_mod (pv 2) pe_int) (pe_op op_mul (pe_op op_mul pe_int (pv 1)) (pv 1))) pe_int) pe_int) pe_int) pa_nil)))))), ?_⟩
  refine ⟨fun σ H' => ∃ c : Int, σ = [some (.ref a), some (.int k), some (.int c), none] ∧ H' = H, ?_, ?_⟩
  · refine ⟨_, rfl, _, rfl, a, _, rfl, .inl hS, _, _, rfl, rfl, _, rfl, ite2 (fun c => ?_) (fun c => ?_)⟩
    · have c' : k < (((ns.map V.int).length : Nat) : Int) := of_decide_eq_true c
      rw [List.length_map] at c'
      obtain ⟨v, _, hv⟩ := at_int (ns := ns) h0 c'
      exact ⟨_, rfl, _, rfl, a, _, _, _, rfl, rfl, hS, hv, v, rfl, rfl⟩
    · exact ⟨_, rfl, 3, k, rfl, rfl, .inl ⟨by decide, by decide⟩, _, _, rfl, rfl, _, rfl, rfl⟩
  · rintro σ' H' ⟨c, rfl, rfl⟩
    refine ⟨_, rfl, c, rfl, _, _, rfl, rfl, mul_ok0, _, _, rfl, rfl, (by decide +kernel), _, _, rfl, urnText_int, urnText_len, _, _, rfl, rfl, (by show (0 : Int) < 10 ^ 300; decide +kernel), _, rfl, c, rfl, 10, 18, rfl, rfl, ⟨by decide, by decide, by decide⟩, _, _, rfl, rfl, .inr ⟨_, rfl, _, _, rfl, rfl, .inr ?_, ?_⟩⟩
    · exact ind_bd _
    obtain ⟨o1, o2⟩ := own_lt c (decide (10 ^ (18 : Int).toNat ≤ if c < 0 then -c else c))
    refine ⟨_, rfl, _, rfl, c, _, rfl, rfl, (by show (0 : Int) < 2305843009213693951; decide), _, rfl, 7919, k, rfl, rfl, .inl ⟨by decide, by decide⟩, _, rfl, _, k, rfl, rfl, .inl ⟨by omega, by omega⟩, _, _, rfl, rfl, _, _, rfl, rfl, _, _, rfl, rfl, .inr ⟨by decide, by decide⟩, _, _, rfl, rfl, (by show (0 : Int) < 2305843009213693951; decide), (by show 2 ≤ sizeLine; decide), fun p np => ?_⟩
    exact q _ p (same_new np) np ⟨_, _, upd_same, o1, o2, Int.emod_nonneg _ (by decide), Int.emod_lt_of_pos _ (by decide)⟩
theorem ok_take {f : Addr} {fd : FuncData} {k : Nat} (F : Fun K "_law_take" "_law_take" sTake f fd) :
    FnOk P w K mg base CX0 (k + 1) f fd ["_law_urn_here", "_law_below"] spTake := by
  refine F.ok scTake (fun vs H Q E h => ?_) (fun cdv A outer s H vs Q E hr h => ?_)
  · obtain ⟨p, n, rfl, _⟩ := h
    rfl
  obtain ⟨p, n, rfl, ⟨u, v, hp, u0, u1, v0, v1⟩, n0, n1, q⟩ := h
  refine ⟨_, pss_cons (ps_if (pt_cmpR op_gt (pe_ix ix_list (pv 0) pe_int (fun _ _ => rfl)) pe_int (nomark _))
      (pss_cons (ps_set (i := 2) scTake.nd rfl (.inl rfl) (pe_op op_mod (pe_ix ix_list (pv 0) pe_int (fun _ _ => rfl)) (pv 1)))
      (pss_cons (ps_asg (pe_op op_fdivW (pe_ix ix_list (pv 0) pe_int (fun _ _ => rfl)) (pv 1)) (pg_sub (pv 0) pe_int set_list))
      (pss_one (ps_ret (pv 2))))) pss_nil)
    (pss_cons (ps_asg (pe_op op_mod (pe_op op_add (pe_op op_mul (pe_ix ix_list (pv 0) pe_int (fun _ _ => rfl)) pe_int) pe_int) pe_int) (pg_sub (pv 0) pe_int set_list))
    (pss_cons (ps_set (i := 3) scTake.nd rfl (.inl rfl) (pe_op op_mod (pe_op op_mul (pe_op op_fdiv (pe_ix ix_list (pv 0) pe_int (fun _ _ => rfl)) pe_int) (pe_op op_add (pe_op op_mod (pe_ix ix_list (pv 0) pe_int (fun _ _ => rfl)) pe_int) pe_int)) pe_int))
    (Evl.pss_cut (ps_if (pt_cmpR op_gt (pv 1) (pe_op op_pow pe_int pe_int) (nomark _))
      (pss_cons (ps_asg (pe_op op_mod (pe_op op_add (pe_op op_mul (pe_ix ix_list (pv 0) pe_int (fun _ _ => rfl)) pe_int) pe_int) pe_int) (pg_sub (pv 0) pe_int set_list))
      (pss_one (ps_set (i := 3) scTake.nd rfl (.inl rfl) (pe_op op_add (pe_op op_mul (pv 3) pe_int) (pe_ix ix_list (pv 0) pe_int (fun _ _ => rfl)))))) pss_nil)
    (pss_one (ps_ret (pe_op op_mod (pe_op op_fdiv (pv 3) pe_int) (pv 1))))))), ?_⟩
  refine ⟨_, rfl, p, _, 0, .int u, rfl, rfl, SqL.of hp, rfl, _, _, rfl, rfl, _, rfl, ite2 (fun c => ?_) (fun c => ?_)⟩
  · have c' : 0 < u := of_decide_eq_true c
    refine ⟨_, rfl, p, _, 0, .int u, rfl, rfl, SqL.of hp, rfl, _, rfl, u, n, rfl, rfl, n0, ?_⟩
    refine ⟨_, rfl, p, _, 0, .int u, rfl, rfl, SqL.of hp, rfl, _, rfl, u, n, rfl, rfl, wide_div (b := 1000) n0 n1 (by decide) (by decide), _, rfl, p, _, 0, 0, rfl, rfl, hp, rfl, _, rfl, ?_⟩
    refine q _ _ (Int.emod_nonneg _ (by omega)) (Int.emod_lt_of_pos _ n0) ⟨_, v, upd_same, ?_, ?_, v0, v1⟩ But.upd
    · exact Int.ediv_nonneg (by omega) (by omega)
    · have h1 : 0 ≤ u / n := Int.ediv_nonneg (by omega) (by omega)
      have h2 : u / n ≤ u := Int.ediv_le_self _ (by omega)
      omega
  · refine ⟨_, rfl, p, _, 1, .int v, rfl, rfl, SqL.of hp, rfl, v, _, rfl, rfl, .inl ⟨by omega, by omega⟩, _, _, rfl, rfl, _, _, rfl, rfl, (by show (0 : Int) < 2305843009213693951; decide), _, rfl, p, _, 1, 1, rfl, rfl, hp, rfl, ?_⟩
    have w0 := nx0 v
    have w1 := nx1 v
    have hx : (upd H p (.lst [.int u, .int (nx v)])) p = some (.lst [.int u, .int (nx v)]) := upd_same
    refine ⟨_, rfl, p, _, 1, .int (nx v), rfl, rfl, SqL.of hx, rfl, nx v, _, rfl, rfl, ⟨by decide, by decide⟩, _, rfl, p, _, 1, .int (nx v), rfl, rfl, SqL.of hx, rfl, nx v, _, rfl, rfl, (by show (0 : Int) < 65537; decide), _, _, rfl, rfl, _, _, rfl, rfl, .inr ⟨by omega, by omega⟩, _, _, rfl, rfl, (by show (0 : Int) < 2305843009213693921; decide), ?_⟩
    refine ⟨fun σ H' => ∃ m y : Int, σ = [some (.ref p), some (.int n), none, some (.int m)] ∧ H' = upd H p (.lst [.int u, .int y]) ∧ 0 ≤ y ∧ y < 2305843009213693951, ?_, ?_⟩
    · refine ⟨_, rfl, 10, 9, rfl, rfl, ⟨by decide, by decide, by decide⟩, _, _, rfl, rfl, _, rfl, ite2 (fun c => ?_) (fun c => ?_)⟩
      · refine ⟨_, rfl, p, _, 1, .int (nx v), rfl, rfl, SqL.of hx, rfl, nx v, _, rfl, rfl, .inl ⟨by omega, by omega⟩, _, _, rfl, rfl, _, _, rfl, rfl, (by show (0 : Int) < 2305843009213693951; decide), _, rfl, p, _, 1, 1, rfl, rfl, hx, rfl, ?_⟩
        have hy : (upd (upd H p (.lst [.int u, .int (nx v)])) p (.lst [.int u, .int (ny (nx v))])) p = some (.lst [.int u, .int (ny (nx v))]) := upd_same
        refine ⟨_, rfl, _, _, rfl, rfl, .inr ⟨by decide, by decide⟩, _, rfl, p, _, 1, .int (ny (nx v)), rfl, rfl, SqL.of hy, rfl, _, _, rfl, rfl, ?_⟩
        exact ⟨_, ny (nx v), rfl, upd_upd, ny0 _, ny1 _⟩
      · exact ⟨_, nx v, rfl, rfl, w0, w1⟩
    · rintro σ' H' ⟨m, y, rfl, rfl, y0, y1⟩
      refine ⟨_, rfl, m, 97, rfl, rfl, ⟨by decide, by decide⟩, _, rfl, _, n, rfl, rfl, n0, ?_⟩
      exact q _ _ (Int.emod_nonneg _ (by omega)) (Int.emod_lt_of_pos _ n0) ⟨u, y, upd_same, u0, u1, y0, y1⟩ But.upd
theorem ok_of {f fT : Addr} {fd fdT : FuncData} {k : Nat} (F : Fun K "_law_of" "_law_of" sOf f fd) (FT : Fun K "_law_take" "_law_take" sTake fT fdT) (bT : Binds K fdT ["_law_urn_here", "_law_below"] []) (gT : mg "_law_take" = some (.ref fT)) (ml : mg "len" = none) :
    FnOk P w K mg base CX0 (k + 2) f fd ["_law_urn_here", "_law_items"] (spOf K) := by
  have GT : FnOk P w K mg base CX0 (k + 1) fT fdT ["_law_urn_here", "_law_below"] spTake := ok_take FT
  refine F.ok scOf (fun vs H Q E h => ?_) (fun cdv A outer s H vs Q E hr h => ?_)
  · obtain ⟨p, r, xs, rfl, _⟩ := h
    rfl
  obtain ⟨p, r, xs, rfl, hU, nr, hr2, hx, hl, q⟩ := h
  refine ⟨_, pss_one (ps_ret (pe_ix ix_list (pv 1) (pe_call GT hr (by rfl) gT FT.kp bT .nil pass0 (pa_cons (pv 0) (pa_cons (pe_callB call_len_seq (by rfl) ml PySem.boot_len (pa_cons (pv 1) pa_nil)) pa_nil))) (fun _ _ => rfl))), ?_⟩
  have l0 : 0 < xs.length := List.length_pos_iff.mpr hx
  have l1 : (1000 : Nat) < wide := by decide +kernel
  refine ⟨_, rfl, _, rfl, _, rfl, r, xs, rfl, .inl hr2, p, _, rfl, hU, by omega, by omega, fun d H' d0 d1 hU' hb => ?_⟩
  obtain ⟨x, mx, hx2⟩ := at_any (xs := xs) d0 d1
  exact ⟨r, xs, d, x, rfl, rfl, hb.seq nr hr2, hx2, q x H' mx hU' hb⟩
end
section
variable {P : Program} {w : World} {K : PySem.W.Frag} {mg : Str → Option Value} {base : Heap}
theorem has_urn (M : Bl mg) (F : At K mg "_law_urn" sUrn ["_law_script", "_law_k"]) : Has P w K mg base 1 "_law_urn" ["_law_script", "_law_k"] (spUrn K) := by
  obtain ⟨f, fd, F, b, g⟩ := F
  exact ⟨f, fd, .of (ok_urn F M.len_ M.abs_ M.int_), F.kp, b, g, fun_lk F⟩
theorem has_take (F : At K mg "_law_take" sTake ["_law_urn_here", "_law_below"]) : Has P w K mg base 1 "_law_take" ["_law_urn_here", "_law_below"] spTake := by
  obtain ⟨f, fd, F, b, g⟩ := F
  exact ⟨f, fd, .of (ok_take F), F.kp, b, g, fun_lk F⟩
theorem has_of (M : Bl mg) (F : At K mg "_law_of" sOf ["_law_urn_here", "_law_items"]) (FT : At K mg "_law_take" sTake ["_law_urn_here", "_law_below"]) : Has P w K mg base 2 "_law_of" ["_law_urn_here", "_law_items"] (spOf K) := by
  obtain ⟨f, fd, F, b, g⟩ := F
  obtain ⟨f2, fd2, F2, b2, g2⟩ := FT
  exact ⟨f, fd, .of (ok_of F F2 b2 g2 M.len_), F.kp, b, g, fun_lk F⟩
theorem ok_prime (F : At K mg "_law_prime" sPrime ["_law_urn_here"]) {k : Nat} (h : Has P w K mg base k "_law_of" ["_law_urn_here", "_law_items"] (spOf K)) : Has P w K mg base (k + 1) "_law_prime" ["_law_urn_here"] spPrimeU := by
  obtain ⟨_, _, cOf⟩ := h
  refine Has.by F scPrime (fun vs H Q E h => ?_) (fun f cdv A out s H vs Q E hg hr h => ?_)
  · obtain ⟨p, rfl, _⟩ := h
    rfl
  obtain ⟨p, rfl, hU, q⟩ := h
  refine ⟨_, (pss_one (ps_ret (pe_cal cOf hg hr (by rfl) (pa_cons (pv 0) (pa_cons (pe_lst (pa_cons pe_int (pa_cons pe_int (pa_cons pe_int (pa_cons pe_int (pa_cons pe_int (pa_cons pe_int (pa_cons pe_int (pa_cons pe_int (pa_cons pe_int (pa_cons pe_int (pa_cons pe_int (pa_cons pe_int (pa_cons pe_int pa_nil)))))))))))))) pa_nil))))), ?_⟩
  refine ⟨_, rfl, (by show 13 ≤ sizeLine; decide), fun l nl => ?_⟩
  refine ⟨p, l, _, rfl, hU.same (same_new nl), hU.ne nl, SqL.of upd_same, (by intro z; cases z), (by show 13 ≤ 1000; decide), fun x H' hx hU' hb => ?_⟩
  have hx2 : x ∈ prs.map V.int := hx
  obtain ⟨z, hz, rfl⟩ := List.mem_map.mp hx2
  exact q z H' hz hU' (But.trans (But.new nl) hb)
theorem tup_op {H : Hp} {t : Addr} {u : Str} {as : List Int} (n : H t = none) : TrAt K (upd H t (.tup (.str u :: as.map V.int))) (.op u as) (.ref t) := by
  rw [TrAt]
  exact ⟨t, rfl, SqT.of upd_same⟩
theorem ok_item (M : Bl mg) (F : At K mg "_law_item" sItem ["_law_urn_here", "_law_p", "_law_n", "_law_words"]) {k : Nat} (h : Has P w K mg base k "_law_of" ["_law_urn_here", "_law_items"] (spOf K)) (h2 : Has P w K mg base k "_law_take" ["_law_urn_here", "_law_below"] spTake) :
    Has P w K mg base (k + 1) "_law_item" ["_law_urn_here", "_law_p", "_law_n", "_law_words"] (spItem K) := by
  obtain ⟨_, _, cOf⟩ := h
  obtain ⟨_, _, cTake⟩ := h2
  refine Has.by F scItem (fun vs H Q E h => ?_) (fun f cdv A out s H vs Q E hg hr h => ?_)
  · obtain ⟨_, _, _, _, _, rfl, _⟩ := h
    rfl
  obtain ⟨u, ws, p, n, wl, rfl, hU, p0, p1, n0, n1, nw, sq, wne, wle, w7, q⟩ := h
  refine ⟨_, (pss_cons (ps_set (i := 4) scItem.nd rfl (.inl rfl) (pe_cal cOf hg hr (by rfl) (pa_cons (pv 0) (pa_cons (pv 3) pa_nil))))
  (pss_cons (ps_par (i := 5) (j := 6) (by rfl) scItem.nd rfl rfl (by decide) rfl rfl (pa_cons (pe_cal cTake hg hr (by rfl) (pa_cons (pv 0) (pa_cons (pv 2) pa_nil))) (pa_cons (pe_cal cOf hg hr (by rfl) (pa_cons (pv 0) (pa_cons (pe_lst (pa_cons pe_int (pa_cons (pe_op op_mod pe_int (pv 1)) (pa_cons (pe_op op_sub (pv 1) pe_int) (pa_cons (pe_cal cTake hg hr (by rfl) (pa_cons (pv 0) (pa_cons (pv 1) pa_nil))) pa_nil))))) pa_nil))) pa_nil)) (by rfl))
  (pss_cons (ps_if (pt_cmpR op_in_seq (pv 4) (pe_tup (pa_cons pe_str (pa_cons pe_str pa_nil))) (by rfl))
    (pss_one (ps_ret (pe_tup (pa_cons (pv 4) (pa_cons (pv 5) (pa_cons (pv 6) pa_nil))))))
    pss_nil)
  (pss_cons (ps_if (pt_cmpR op_in_seq (pv 4) (pe_tup (pa_cons pe_str (pa_cons pe_str pa_nil))) (by rfl))
    (pss_one (ps_ret (pe_tup (pa_cons (pv 4) (pa_cons (pv 5) pa_nil)))))
    pss_nil)
  (pss_cons (ps_if (pt_cmpR op_eq (pv 2) pe_int (nomark _))
    (pss_one (ps_ret (pe_tup (pa_cons pe_str (pa_cons pe_int (pa_cons (pv 6) pa_nil))))))
    pss_nil)
  (pss_cons (ps_set (i := 7) scItem.nd rfl (.inl rfl) (pe_op op_mod (pe_op op_add (pe_op op_add (pv 5) pe_int) (pe_cal cTake hg hr (by rfl) (pa_cons (pv 0) (pa_cons (pe_op op_sub (pv 2) pe_int) pa_nil)))) (pv 2)))
  (pss_cons (ps_if (pt_cmpR op_eq (pv 4) pe_str (nomark _))
    (pss_one (ps_ret (pe_tup (pa_cons (pv 4) (pa_cons (pv 5) (pa_cons (pv 7) (pa_cons (pe_ifExp (pt_cmpR op_gt (pv 1) pe_int (nomark _)) (pe_op op_add pe_int (pe_op op_mod (pv 6) (pe_op op_sub (pv 1) pe_int))) pe_int) pa_nil)))))))
    pss_nil)
  (pss_one (ps_ret (pe_tup (pa_cons (pv 4) (pa_cons (pv 5) (pa_cons (pv 7) pa_nil))))))))))))), ?_⟩
  -- the word
  refine ⟨_, rfl, _, rfl, u, ws, _, rfl, hU, nw, sq, (by simpa using wne), (by rw [List.length_map]; exact wle), fun x H1 hx u1 b1 => ?_⟩
  obtain ⟨z, hz, rfl⟩ := List.mem_map.mp hx
  -- x and c
  refine ⟨_, rfl, _, rfl, u, n, rfl, u1, by omega, wide_big (by omega) (by omega), fun x H2 x0 x1 u2 b2 => ?_⟩
  refine ⟨_, rfl, _, rfl, 1, p, rfl, rfl, (by show (0 : Int) < p; omega), _, rfl, p, 1, rfl, rfl, _, rfl, _, rfl, u, p, rfl, u2, by omega, wide_big (by omega) (by omega), fun c3 H3 c30 c31 u3 b3 => ?_⟩
  refine ⟨(by show 4 ≤ sizeLine; decide), fun l nl => ?_⟩
  refine ⟨u, l, _, rfl, u3.same (same_new nl), u3.ne nl, SqL.of upd_same, (by intro z; cases z), (by show 4 ≤ 1000; decide), fun c H4 hc u4 b4 => ?_⟩
  have bb : But u H H4 := ((b1.trans b2).trans b3).trans ((But.new nl).trans b4)
  obtain ⟨c, rfl, c0, c1⟩ : ∃ c' : Int, c = .int c' ∧ 0 ≤ c' ∧ c' < p := by
    have m0 := Int.emod_nonneg 1 (show p ≠ 0 by omega)
    have m1 := Int.emod_lt_of_pos 1 (show 0 < p by omega)
    simp only [List.mem_cons, List.not_mem_nil, or_false] at hc
    rcases hc with rfl | rfl | rfl | rfl
    · exact ⟨0, rfl, by omega, by omega⟩
    · exact ⟨1 % p, rfl, m0, m1⟩
    · exact ⟨p - 1, rfl, by omega, by omega⟩
    · exact ⟨c3, rfl, c30, c31⟩
  refine ⟨_, _, rfl, ?_⟩
  -- set, scale
  refine ⟨_, rfl, (by show 2 ≤ sizeLine; decide), fun t1 nt1 => ?_⟩
  refine ⟨t1, _, rfl, .inr (SqT.of upd_same), rfl, rfl, _, rfl, ite2 (fun i1 => ?_) (fun i1 => ?_)⟩
  · have e := inV2.mp i1
    refine ⟨_, rfl, _, rfl, _, rfl, (by show 3 ≤ sizeLine; decide), fun t nt => ?_⟩
    exact q z [x, c] _ _ (.inl ⟨e, x, c, rfl, x0, x1, c0, c1⟩) (.inl hz) (tup_op (as := [x, c]) nt) ((u4.same (same_new nt1)).same (same_new nt)) (bb.trans ((But.new nt1).trans (But.new nt)))
  -- read, write
  refine ⟨_, rfl, (by show 2 ≤ sizeLine; decide), fun t2 nt2 => ?_⟩
  have u6 := (u4.same (same_new (o := .tup [.str "set", .str "scale"]) nt1)).same (same_new (o := .tup [.str "read", .str "write"]) nt2)
  have b6 : But u H _ := bb.trans ((But.new (o := .tup [.str "set", .str "scale"]) nt1).trans (But.new (o := .tup [.str "read", .str "write"]) nt2))
  refine ⟨t2, _, rfl, .inr (SqT.of upd_same), rfl, rfl, _, rfl, ite2 (fun i2 => ?_) (fun i2 => ?_)⟩
  · have e := inV2.mp i2
    refine ⟨_, rfl, _, rfl, (by show 2 ≤ sizeLine; decide), fun t nt => ?_⟩
    exact q z [x] _ _ (.inr (.inl ⟨e, x, rfl, x0, x1⟩)) (.inl hz) (tup_op (as := [x]) nt) (u6.same (same_new nt)) (b6.trans (But.new nt))
  have z1 : ¬ (z = "set" ∨ z = "scale") := fun e => i1 (inV2.mpr e)
  have z2 : ¬ (z = "read" ∨ z = "write") := fun e => i2 (inV2.mpr e)
  -- one register
  refine ⟨_, rfl, rfl, _, rfl, ite2 (fun i3 => ?_) (fun i3 => ?_)⟩
  · have e : n = 1 := V.int.inj (of_decide_eq_true i3)
    refine ⟨_, rfl, (by show 3 ≤ sizeLine; decide), fun t nt => ?_⟩
    exact q "set" [0, c] _ _ (.inl ⟨.inl rfl, 0, c, rfl, by omega, by omega, c0, c1⟩) (.inr rfl) (tup_op (as := [0, c]) nt) (u6.same (same_new nt)) (b6.trans (But.new nt))
  have n2 : n ≠ 1 := fun e => i3 (decide_eq_true (congrArg V.int e))
  -- y
  refine ⟨_, rfl, _, _, rfl, rfl, _, rfl, _, rfl, n, 1, rfl, rfl, u, _, rfl, u6, by omega, wide_big (by omega) (by omega), fun d H7 d0 d1 u7 b7 => ?_⟩
  refine ⟨_, _, rfl, rfl, _, rfl, _, n, rfl, rfl, (by show (0 : Int) < n; omega), ?_⟩
  have y0 := Int.emod_nonneg (x + 1 + d) (show n ≠ 0 by omega)
  have y1 := Int.emod_lt_of_pos (x + 1 + d) (show 0 < n by omega)
  have yx : x ≠ (x + 1 + d) % n := fun e => by
    have h := Int.emod_def (x + 1 + d) n
    by_cases g : x + 1 + d < n
    · rw [Int.emod_eq_of_lt (by omega) g] at e
      omega
    · have h2 : (x + 1 + d) % n = x + 1 + d - n := by
        rw [← Int.sub_emod_right]
        exact Int.emod_eq_of_lt (by omega) (by omega)
      omega
  -- add
  refine ⟨_, rfl, rfl, _, rfl, ite2 (fun i4 => ?_) (fun i4 => ?_)⟩
  · have e : z = "add" := V.str.inj (of_decide_eq_true i4)
    refine ⟨_, rfl, _, rfl, _, rfl, _, rfl, p, 2, rfl, rfl, _, rfl, ite2 (fun i5 => ?_) (fun i5 => ?_)⟩
    · have g : 2 < p := of_decide_eq_true i5
      have m0 := Int.emod_nonneg c (show p - 1 ≠ 0 by omega)
      have m1 := Int.emod_lt_of_pos c (show 0 < p - 1 by omega)
      refine ⟨_, rfl, _, rfl, p, 1, rfl, rfl, c, _, rfl, rfl, (by show (0 : Int) < p - 1; omega), 1, _, rfl, rfl, (by show 4 ≤ sizeLine; decide), fun t nt => ?_⟩
      exact q z [x, (x + 1 + d) % n, 1 + c % (p - 1)] _ _ (.inr (.inr (.inr ⟨e, x, _, _, rfl, x0, x1, y0, y1, yx, by omega, by omega⟩))) (.inl hz) (tup_op (as := [x, (x + 1 + d) % n, 1 + c % (p - 1)]) nt) (u7.same (same_new nt)) ((b6.trans b7).trans (But.new nt))
    · refine ⟨(by show 4 ≤ sizeLine; decide), fun t nt => ?_⟩
      exact q z [x, (x + 1 + d) % n, 1] _ _ (.inr (.inr (.inr ⟨e, x, _, _, rfl, x0, x1, y0, y1, yx, by omega, by omega⟩))) (.inl hz) (tup_op (as := [x, (x + 1 + d) % n, 1]) nt) (u7.same (same_new nt)) ((b6.trans b7).trans (But.new nt))
  · have e : z ≠ "add" := fun e => i4 (decide_eq_true (congrArg V.str e))
    have hz7 := w7 z hz
    have e2 : z = "copy" ∨ z = "swap" := by
      simp only [W7, List.mem_cons, List.not_mem_nil, or_false] at hz7
      rcases hz7 with h | h | h | h | h | h | h
      · exact absurd (.inl h) z1
      · exact .inl h
      · exact absurd h e
      · exact absurd (.inr h) z1
      · exact .inr h
      · exact absurd (.inl h) z2
      · exact absurd (.inr h) z2
    refine ⟨_, rfl, _, rfl, _, rfl, (by show 3 ≤ sizeLine; decide), fun t nt => ?_⟩
    exact q z [x, (x + 1 + d) % n] _ _ (.inr (.inr (.inl ⟨e2, x, _, rfl, x0, x1, y0, y1, yx⟩))) (.inl hz) (tup_op (as := [x, (x + 1 + d) % n]) nt) (u7.same (same_new nt)) ((b6.trans b7).trans (But.new nt))
end
end K08
set_option Elab.async false
set_option linter.all false
set_option maxRecDepth 100000
namespace K08
open PySem PySem.Spec PyProof.Rows L2 Lj
section
variable {P : Program} {w : World} {K : PySem.W.Frag} {mg : Str → Option Value} {base : Heap}
theorem ok_body1 (M : Bl mg) (F : At K mg "_law_body" sBody ["_law_urn_here", "_law_p", "_law_n", "_law_words", "_law_length", "_law_deep", "_law_rounds"]) {d k : Nat}
    (h : Has P w K mg base k "_law_of" ["_law_urn_here", "_law_items"] (spOf K)) (h2 : Has P w K mg base k "_law_take" ["_law_urn_here", "_law_below"] spTake)
    (h3 : Has P w K mg base k "_law_item" ["_law_urn_here", "_law_p", "_law_n", "_law_words"] (spItem K)) (h4 : Has P w K mg base k "_law_body" ["_law_urn_here", "_law_p", "_law_n", "_law_words", "_law_length", "_law_deep", "_law_rounds"] (spBody K d)) :
    Has P w K mg base (k + 1) "_law_body" ["_law_urn_here", "_law_p", "_law_n", "_law_words", "_law_length", "_law_deep", "_law_rounds"] (spBody K (d + 1)) := by
  obtain ⟨_, _, cOf⟩ := h
  obtain ⟨_, _, cTake⟩ := h2
  obtain ⟨_, _, cItem⟩ := h3
  obtain ⟨_, _, cBody⟩ := h4
  refine Has.by F scBody (fun vs H Q E h => ?_) (fun f cdv A out s H vs Q E hg hr h => ?_)
  · obtain ⟨_, _, _, _, _, _, _, _, _, rfl, _⟩ := h
    rfl
  obtain ⟨u, ws, rs, p, n, wl, rl, l, e, rfl, hU, p0, p1, n0, n1, nw, sqw, wne, wle, w7, nr, sqr, rne, rle, l1, ed, q⟩ := h
  refine ⟨_, (pss_cons (ps_set (i := 7) scBody.nd rfl (.inl rfl) (pe_lst pa_nil))
  (pss_cons (ps_for PassesOwn.never rfl (pi_range1 (by rfl) M.range_ (pa_cons (pe_cal cTake hg hr (by rfl) (pa_cons (pv 0) (pa_cons (pe_op op_add (pv 4) pe_int) pa_nil))) pa_nil)) (pg_name (i := 8) scBody.nd rfl (.inl rfl))
    (pss_one (ps_if (PW.pt (pw_and (pt_cmpR op_gt (pv 5) pe_int (nomark _)) (pw_and1 (pt_cmpR op_eq (pe_cal cTake hg hr (by rfl) (pa_cons (pv 0) (pa_cons pe_int pa_nil))) pe_int (nomark _)))))
    (pss_cons (ps_set (i := 9) scBody.nd rfl (.inl rfl) (pe_cal cBody hg hr (by rfl) (pa_cons (pv 0) (pa_cons (pv 1) (pa_cons (pv 2) (pa_cons (pv 3) (pa_cons (pe_op op_fdiv (pv 4) pe_int) (pa_cons (pe_op op_sub (pv 5) pe_int) (pa_cons (pv 6) pa_nil)))))))))
  (pss_one (ps_expr (pe_bm PySem.F.plainAttrs_list PySem.F.slot_list_append PySem.F.type_list_append mt_append (pv 7) (pa_cons (pe_tup (pa_cons pe_str (pa_cons (pe_cal cOf hg hr (by rfl) (pa_cons (pv 0) (pa_cons (pv 6) pa_nil))) (pa_cons (pv 9) pa_nil)))) pa_nil)))))
    (pss_one (ps_expr (pe_bm PySem.F.plainAttrs_list PySem.F.slot_list_append PySem.F.type_list_append mt_append (pv 7) (pa_cons (pe_cal cItem hg hr (by rfl) (pa_cons (pv 0) (pa_cons (pv 1) (pa_cons (pv 2) (pa_cons (pv 3) pa_nil))))) pa_nil)))))))
  (pss_one (ps_ret (pe_callTy call_tuple_of (by rfl) M.tuple_ (by decide +kernel) (pa_cons (pv 7) pa_nil)))))), ?_⟩
  refine ⟨Nat.zero_le _, fun fo nfo => ?_⟩
  have nfu : fo ≠ u := hU.ne nfo
  refine ⟨_, rfl, _, rfl, (l : Int), 1, rfl, rfl, u, _, rfl, hU.same (same_new nfo), by omega, wide_big (by omega) (by omega), fun m H1 m0 m1 u1 b1 => ?_⟩
  refine ⟨m, rfl, by omega, by omega, ?_⟩
  refine for_range (lo := 0) (n := m.toNat) (fun i σ H' => ∃ y8 y9 bs us, σ = [some (.ref u), some (.int p), some (.int n), some (.ref ws), some (.int (l : Int)), some (.int (e : Int)), some (.ref rs), some (.ref fo), y8, y9] ∧ Urn H' u ∧ But u H H' ∧ H' fo = some (.lst us) ∧
    TrsAt K H' bs us ∧ bs.length = i ∧ mades (fun w as => GoodOp p n w as ∧ (w ∈ wl ∨ w = "set")) (fun k => k ∈ rl) bs l e) ⟨none, none, [], [], rfl, u1, (But.new nfo).trans b1, b1 _ _ nfu upd_same, TrsAt.nil, rfl, mades_nil⟩ ?_ ?_
  · rintro i σ H2 hi ⟨y8, y9, bs, us, rfl, u2, b2, h2, tr2, hlen, hmad⟩
    refine ⟨_, rfl, (e : Int), 0, rfl, rfl, _, rfl, ite2 (fun c => ?_) (fun c => ?_)⟩
    · have c' : (0 : Int) < (e : Int) := of_decide_eq_true c
      refine ⟨_, rfl, u, 4, rfl, u2, by decide, wide_big (by decide) (by decide), fun z H3 z0 z1 u3 b3 => ?_⟩
      have h3 := b3 _ _ nfu h2
      have tr3 := TrsAt.kt (u2.kt b3) _ _ tr2
      have b23 := b2.trans b3
      refine ⟨rfl, _, rfl, ite2 (fun c2 => ?_) (fun c2 => ?_)⟩
      · have e1 : ((l : Int) / 2) = ((l / 2 : Nat) : Int) := by omega
        have e2 : ((e : Int) - 1) = ((e - 1 : Nat) : Int) := by omega
        refine ⟨_, rfl, _, rfl, _, rfl, _, rfl, _, rfl, (l : Int), 2, rfl, rfl, ⟨by decide, by decide⟩, _, rfl, (e : Int), 1, rfl, rfl, _, rfl, u, ws, rs, p, n, wl, rl, l / 2, e - 1, ?_, u3, p0, p1, n0, n1, nw, b23.seq nw sqw, wne, wle, w7, nr, b23.seq nr sqr, rne, rle, by omega, by omega, fun b' v' H4 len4 mad4 body4 u4 b4 => ?_⟩
        · show [V.ref u, V.int p, V.int n, V.ref ws, V.int ((l : Int) / 2), V.int ((e : Int) - 1), V.ref rs] = _
          rw [e1, e2]
        have h4 := b4 _ _ nfu h3
        have b24 := b23.trans b4
        refine ⟨_, rfl, .inl ⟨rfl, _, SqL.of h4⟩, _, rfl, _, rfl, u, rs, _, rfl, u4, nr, b24.seq nr sqr, (by simpa using rne), (by rw [List.length_map]; exact rle), fun x H5 hx u5 b5 => ?_⟩
        obtain ⟨k', hk, rfl⟩ := List.mem_map.mp hx
        obtain ⟨c4, vs4, rfl, sq4, tr4⟩ := body4
        refine ⟨_, rfl, (by show 3 ≤ sizeLine; decide), fun t nt => ?_⟩
        have h5 := b5 _ _ nfu h4
        have h6 : (upd H5 t (.tup [.str "loop", .int k', .ref c4])) fo = some (.lst us) := same_new nt _ _ h5
        refine ⟨fo, _, _, rfl, rfl, h6, ?_, ?_⟩
        · rw [tr2.length, hlen]
          exact small1000 (by omega)
        · have kt6 : Kt (upd H5 t (.tup [.str "loop", .int k', .ref c4])) (upd (upd H5 t (.tup [.str "loop", .int k', .ref c4])) fo (.lst (us ++ [.ref t]))) := Kt.but But.upd h6
          have kt5 : Kt H5 (upd (upd H5 t (.tup [.str "loop", .int k', .ref c4])) fo (.lst (us ++ [.ref t]))) := (Kt.same (same_new nt)).trans kt6
          have kt4 := (u4.kt b5).trans kt5
          have kt3 := (u3.kt b4).trans kt4
          have ntf : t ≠ fo := (ne_of_none h5 nt).symm
          refine ⟨_, _, bs ++ [.loop k' b'], us ++ [.ref t], rfl, (u5.same (same_new nt)).but (q := fo) But.upd nfu.symm, fun x o hx ho => ?_, upd_same, (TrsAt.kt kt3 _ _ tr3).append (TrsAt.one ?_), by rw [List.length_append, hlen]; rfl, mades_append hmad (mades_one ?_)⟩
          · rw [upd_ne (ne_of_none ho nfo)]
            exact same_new nt _ _ (b5 _ _ hx (b24 _ _ hx ho))
          · rw [TrAt]
            exact ⟨t, c4, vs4, rfl, kt6.sq (SqT.of upd_same), kt4.sq sq4, TrsAt.kt kt4 _ _ tr4⟩
          · obtain ⟨e', rfl⟩ : ∃ e', e = e' + 1 := ⟨e - 1, by omega⟩
            rw [Tr.made]
            exact ⟨hk, len4, mad4⟩
      · refine ⟨_, rfl, .inl ⟨rfl, _, SqL.of h3⟩, _, rfl, _, rfl, _, rfl, _, rfl, u, ws, p, n, wl, rfl, u3, p0, p1, n0, n1, nw, b23.seq nw sqw, wne, wle, w7, fun w' as v H9 good inl tr u9 b9 => ?_⟩
        refine ⟨fo, _, _, rfl, rfl, b9 _ _ nfu h3, ?_, ?_⟩
        · rw [tr3.length, hlen]
          exact small1000 (by omega)
        · have kt9 : Kt H9 (upd H9 fo (.lst (us ++ [v]))) := Kt.but But.upd (b9 _ _ nfu h3)
          refine ⟨_, _, bs ++ [.op w' as], us ++ [v], rfl, u9.but (q := fo) But.upd nfu.symm, fun x o hx ho => ?_, upd_same, (TrsAt.kt ((u3.kt b9).trans kt9) _ _ tr3).append (TrsAt.one (TrAt.kt kt9 _ _ tr)), by rw [List.length_append, hlen]; rfl, mades_append hmad (mades_one (by rw [Tr.made]; exact ⟨good, inl⟩))⟩
          rw [upd_ne (ne_of_none ho nfo)]
          exact b9 _ _ hx (b23 _ _ hx ho)
    · refine ⟨_, rfl, .inl ⟨rfl, _, SqL.of h2⟩, _, rfl, _, rfl, _, rfl, _, rfl, u, ws, p, n, wl, rfl, u2, p0, p1, n0, n1, nw, b2.seq nw sqw, wne, wle, w7, fun w' as v H9 good inl tr u9 b9 => ?_⟩
      refine ⟨fo, _, _, rfl, rfl, b9 _ _ nfu h2, ?_, ?_⟩
      · rw [tr2.length, hlen]
        exact small1000 (by omega)
      · have kt9 : Kt H9 (upd H9 fo (.lst (us ++ [v]))) := Kt.but But.upd (b9 _ _ nfu h2)
        refine ⟨_, _, bs ++ [.op w' as], us ++ [v], rfl, u9.but (q := fo) But.upd nfu.symm, fun x o hx ho => ?_, upd_same, (TrsAt.kt ((u2.kt b9).trans kt9) _ _ tr2).append (TrsAt.one (TrAt.kt kt9 _ _ tr)), by rw [List.length_append, hlen]; rfl, mades_append hmad (mades_one (by rw [Tr.made]; exact ⟨good, inl⟩))⟩
        rw [upd_ne (ne_of_none ho nfo)]
        exact b9 _ _ hx (b2 _ _ hx ho)
  · rintro σ H2 ⟨y8, y9, bs, us, rfl, u2, b2, h2, tr2, hlen, hmad⟩
    refine ⟨_, rfl, fo, us, rfl, .inl ⟨SqL.of h2, fun t nt => ?_⟩⟩
    exact q bs (.ref t) _ (by omega) hmad ⟨t, us, rfl, SqT.of upd_same, TrsAt.kt (Kt.same (same_new nt)) _ _ tr2⟩ (u2.same (same_new nt)) (b2.trans (But.new nt))
theorem ok_body (M : Bl mg) (F : At K mg "_law_body" sBody ["_law_urn_here", "_law_p", "_law_n", "_law_words", "_law_length", "_law_deep", "_law_rounds"]) {k : Nat}
    (h : Has P w K mg base k "_law_of" ["_law_urn_here", "_law_items"] (spOf K)) (h2 : Has P w K mg base k "_law_take" ["_law_urn_here", "_law_below"] spTake)
    (h3 : Has P w K mg base k "_law_item" ["_law_urn_here", "_law_p", "_law_n", "_law_words"] (spItem K)) :
    ∀ d, Has P w K mg base (k + d) "_law_body" ["_law_urn_here", "_law_p", "_law_n", "_law_words", "_law_length", "_law_deep", "_law_rounds"] (spBody K d)
  | 0 => Has.none F fun vs H Q E ⟨_, _, _, _, _, _, _, _, _, _, _, _, _, _, _, _, _, _, _, _, _, _, _, _, _, h, _⟩ => absurd h (Nat.not_lt_zero _)
  | d + 1 => ok_body1 M F (h.up (Nat.le_add_right _ _)) (h2.up (Nat.le_add_right _ _)) (h3.up (Nat.le_add_right _ _)) (ok_body M F h h2 h3 d)
/-! ### what is executed -/
theorem trs_flat {H : Hp} {b : List Tr} {vs : List V} (h : TrsAt K H b vs) : ∀ n : Nat, TrsAt K H (List.replicate n b).flatten (List.replicate n vs).flatten
  | 0 => TrsAt.nil
  | n + 1 => by
    rw [List.replicate_succ, List.flatten_cons, List.replicate_succ, List.flatten_cons]
    exact h.append (trs_flat h n)
theorem rep_succ {α : Type} (n : Nat) (xs : List α) : (List.replicate (n + 1) xs).flatten = (List.replicate n xs).flatten ++ xs := by
  rw [List.replicate_succ', List.flatten_append, List.flatten_cons, List.flatten_nil, List.append_nil]
theorem flat_take {b : List Tr} {i : Nat} {t : Tr} (e : b[i]? = some t) : exs (b.take (i + 1)) = exs (b.take i) ++ t.ex := by
  rw [exs_map, exs_map, map_next e, List.flatten_append, List.flatten_cons, List.flatten_nil, List.append_nil]
theorem ex_mem {b : List Tr} {i : Nat} {t : Tr} (e : b[i]? = some t) : ∀ x ∈ t.ex, x ∈ exs b := by
  intro x m
  rw [exs_map]
  exact List.mem_flatten.mpr ⟨t.ex, List.mem_map.mpr ⟨t, List.mem_of_getElem? e, rfl⟩, m⟩
theorem ex_le {b : List Tr} {i : Nat} {t : Tr} (e : b[i]? = some t) : (exs (b.take i)).length + t.ex.length ≤ (exs b).length := by
  have h : exs b = exs (b.take (i + 1)) ++ exs (b.drop (i + 1)) := by
    rw [exs_map, exs_map, exs_map, ← List.flatten_append, ← List.map_append, List.take_append_drop]
  rw [h, flat_take e, List.length_append, List.length_append]
  omega
/-! ### the law's own count of steps -/
theorem ok_lsteps1 (M : Bl mg) (F : At K mg "_law_steps" sSteps ["_law_program"]) {n k : Nat} (h : Has P w K mg base k "_law_steps" ["_law_program"] (spTI K (okB n) lens)) : Has P w K mg base (k + 1) "_law_steps" ["_law_program"] (spTI K (okB (n + 1)) lens) := by
  obtain ⟨_, _, cSteps⟩ := h
  refine Has.by F scSteps (fun vs H Q E h => ?_) (fun f cdv A out s H vs Q E hg hr h => ?_)
  · obtain ⟨v, t, rfl, _⟩ := h
    rfl
  obtain ⟨v, b, rfl, ⟨c, us, rfl, sq, r⟩, ok, q⟩ := h
  refine ⟨_, (pss_one (ps_ret (pe_callB (cr_sum rfl) (by rfl) M.sum_ (by decide +kernel) (pa_cons (pe_lc (own := [("_law_item_here", 1)]) (g := gName 1) (by rfl) scSteps.nd (pi_tup (pv 0)) (blkOk_by (own := [("_law_item_here", 1)]) (N := ["_law_program", "_law_item_here"]) (sc := defScope sSteps) (by decide +kernel)) (fun _ _ _ _ _ => (pg_name (i := 1) scSteps.nd rfl (.inl rfl))) (fun _ _ _ _ _ => pts_nil) (fun _ _ _ _ _ => (pe_ifExp (pt_cmpR op_eq (pe_ix (ix_tupK (K := K) rfl) (pv 1) pe_int (fun _ _ => rfl)) pe_str (nomark _)) (pe_op op_mul (pe_ix (ix_tupK (K := K) rfl) (pv 1) pe_int (fun _ _ => rfl)) (pe_cal cSteps hg hr (by rfl) (pa_cons (pe_ix (ix_tupK (K := K) rfl) (pv 1) pe_int (fun _ _ => rfl)) pa_nil))) pe_int))) pa_nil)))), ?_⟩
  refine ⟨_, rfl, c, rfl, ⟨_, sq⟩, fun D nD => ?_⟩
  refine lc_tup (xs := us) (fun i H' => H' D = some (.lst (((b.take i).map Tr.len).map V.int)) ∧ Same H H') ⟨upd_same, same_new nD⟩ (fun i H' _ h => (Kt.same h.2).sq sq) ?_ ?_
  · rintro i x H' hx ⟨e1, e2⟩
    obtain ⟨t, ht, hT⟩ := r.get hx
    have hT := TrAt.kt (Kt.same e2) t x hT
    have fit : (((b.take i).map Tr.len).map V.int).length < sizeLine := by
      rw [List.length_map, List.length_map, List.length_take]
      exact small1000 (Nat.le_trans (Nat.min_le_right _ _) ok.2)
    refine ⟨rfl, ?_⟩
    cases t with
    | op z as =>
      rw [TrAt] at hT
      obtain ⟨a, rfl, sq3⟩ := hT
      refine ⟨_, rfl, a, _, 0, .str z, rfl, rfl, sq3, at0, rfl, _, rfl, iteN (fun e => okB_op ok ht (V.str.inj e)) ?_⟩
      refine ⟨_, e1, fit, ?_, same_upd e2 nD⟩
      rw [upd_same, map_next ht, List.map_append, Tr.len]
      rfl
    | loop m b' =>
      rw [TrAt] at hT
      obtain ⟨a, g, ws, rfl, sq3, sq4, r2⟩ := hT
      obtain ⟨c0, c1, ok2⟩ := okB_loop ok ht
      refine ⟨_, rfl, a, _, 0, .str "loop", rfl, rfl, sq3, rfl, rfl, _, rfl, iteP rfl ?_⟩
      refine ⟨_, rfl, a, _, 1, .int m, rfl, rfl, sq3, rfl, _, rfl, a, _, 2, .ref g, rfl, rfl, sq3, rfl, _, b', rfl, ⟨g, ws, rfl, sq4, r2⟩, ok2, fun H2 sm => ?_⟩
      refine ⟨m, _, rfl, rfl, .inl ⟨by omega, by omega⟩, _, sm _ _ e1, fit, ?_, same_upd (e2.trans sm) nD⟩
      rw [upd_same, map_next ht, List.map_append, Tr.len]
      rfl
  · rintro H' ⟨e1, e2⟩
    rw [r.length, take_all] at e1
    refine ⟨D, _, rfl, SqL.of e1, ?_⟩
    rw [← lens_map]
    exact q H' e2
theorem ok_lsteps (M : Bl mg) (F : At K mg "_law_steps" sSteps ["_law_program"]) : ∀ n, Has P w K mg base n "_law_steps" ["_law_program"] (spTI K (okB n) lens)
  | 0 => Has.none F fun vs H Q E ⟨_, _, _, _, h, _⟩ => h
  | n + 1 => ok_lsteps1 M F (ok_lsteps M F n)
end
section
variable {P : Program} {w : World} {K : PySem.W.Frag} {mg : Str → Option Value} {base : Heap}
/-! ### is_between, place, locate -/
def spBt : Sp := fun vs H Q _ => ∃ v lo hi : Int, vs = [.int v, .int lo, .int hi] ∧ Q (.bl (decide (lo ≤ v) && decide (v ≤ hi))) H
theorem ok_bt (M : Bl mg) (F : At K mg "is_between" sIs_between ["value", "low", "high"]) {k : Nat} : Has P w K mg base (k + 1) "is_between" ["value", "low", "high"] spBt := by
  refine Has.by F scIs_between (fun vs H Q E h => ?_) (fun f cdv A out s H vs Q E hg hr h => ?_)
  · obtain ⟨_, _, _, rfl, _⟩ := h
    rfl
  obtain ⟨v, lo, hi, rfl, q⟩ := h
  refine ⟨_, (pss_one (ps_ret (pe_and (pe_callB call_isi (by rfl) M.isinstance_ (by decide +kernel) (pa_cons (pv 0) (pa_cons (pe_bltn (v := .ty "int") (by rfl) M.int_ (by decide +kernel) rfl) pa_nil))) (pe_and (pe_not (pe_callB call_isi (by rfl) M.isinstance_ (by decide +kernel) (pa_cons (pv 0) (pa_cons (pe_bltn (v := .ty "bool") (by rfl) M.bool_ (by decide +kernel) rfl) pa_nil)))) (pe_one (pe_chain op_le op_le (pv 1) (pv 0) (pv 2))))))), ?_⟩
  refine ⟨_, rfl, _, _, _, _, true, rfl, .ty _, .base (.int v), kit_ty (by decide +kernel), _, rfl, iteT ?_⟩
  refine ⟨_, rfl, _, _, _, _, false, rfl, .ty _, .base (.int v), kit_ty (by decide +kernel), _, rfl, _, rfl, iteT ?_⟩
  refine ⟨_, rfl, _, rfl, lo, v, rfl, rfl, _, rfl, ite2 (fun c => ?_) (fun c => ?_)⟩
  · have c' : decide (lo ≤ v) = true := c
    rw [c', Bool.true_and] at q
    exact ⟨_, rfl, v, hi, rfl, rfl, q⟩
  · have c' : decide (lo ≤ v) = false := Bool.eq_false_iff.mpr c
    rw [c', Bool.false_and] at q
    exact q
def spPlace (K : PySem.W.Frag) (n : Nat) : Sp := fun vs H Q _ => ∃ (v : V) (b : List Tr) (st : Int), vs = [v, .int st] ∧ BodyAt K H b v ∧ okB (n + 1) b ∧ 0 ≤ st ∧ st < lens b ∧
  ∀ (i : Nat) (t : Tr) (r : Int) p H', b[i]? = some t → 0 ≤ r → r < t.len → st = lens (b.take i) + r → Same H H' → H' p = some (.tup [.int (i : Nat), .int r]) → Q (.ref p) H'
theorem ok_place (M : Bl mg) (F : At K mg "place" sPlace ["program", "step"]) {n k : Nat} (h : Has P w K mg base k "length" ["instruction"] (spII K (fun t => okB (n + 1) [t]) Tr.len)) : Has P w K mg base (k + 1) "place" ["program", "step"] (spPlace K n) := by
  obtain ⟨_, _, cLength⟩ := h
  refine Has.by F scPlace (fun vs H Q E h => ?_) (fun f cdv A out s H vs Q E hg hr h => ?_)
  · obtain ⟨_, _, _, rfl, _⟩ := h
    rfl
  obtain ⟨v, b, st, rfl, ⟨c, us, rfl, sq, r⟩, ok, s0, s1, q⟩ := h
  refine ⟨_, (pss_cons (ps_set (i := 2) scPlace.nd rfl (.inl rfl) pe_int)
  (pss_cons (ps_set (i := 3) scPlace.nd rfl (.inl rfl) (pv 1))
  (pss_cons (ps_while PassesOwn.never (pt_cmpR op_ge (pv 3) (pe_cal cLength hg hr (by rfl) (pa_cons (pe_ix ix_tup (pv 0) (pv 2) (fun _ _ => rfl)) pa_nil)) (nomark _))
    (pss_cons (ps_aug (i := 3) scPlace.nd rfl (.inl rfl) (pe_cal cLength hg hr (by rfl) (pa_cons (pe_ix ix_tup (pv 0) (pv 2) (fun _ _ => rfl)) pa_nil)) ip_sub)
  (pss_one (ps_aug (i := 2) scPlace.nd rfl (.inl rfl) pe_int ip_add))))
  (pss_one (ps_ret (pe_tup (pa_cons (pv 2) (pa_cons (pv 3) pa_nil)))))))), ?_⟩
  refine ⟨_, rfl, ?_⟩
  refine ⟨fun m σ H' => ∃ i : Nat, σ = [some (.ref c), some (.int st), some (.int (i : Nat)), some (.int (st - lens (b.take i)))] ∧ Same H H' ∧ lens (b.take i) ≤ st ∧ m = b.length - i, ⟨_, 0, ?_, Same.refl H, s0, rfl⟩, ?_⟩
  · show _ = [_, _, _, some (V.int (st - 0))]
    rw [Int.sub_zero]
    rfl
  rintro m σ H2 ⟨i, rfl, s2, hle, rfl⟩
  have il : i < b.length := by
    by_cases g : i < b.length
    · exact g
    · rw [List.take_of_length_le (by omega)] at hle
      omega
  have ul := r.length
  obtain ⟨x, hx⟩ : ∃ x, us[i]? = some x := ⟨us[i]'(by omega), List.getElem?_eq_getElem (by omega)⟩
  obtain ⟨t, ht, hT⟩ := r.get hx
  have okt : okB (n + 1) [t] := ⟨by rw [wfs, wfs]; exact ⟨wfs_get ok.1 ht, trivial⟩, by show 1 ≤ 1000; decide⟩
  have sqk := (Kt.same s2).sq sq
  refine ⟨_, rfl, _, rfl, _, rfl, c, us, (i : Nat), x, rfl, rfl, sqk, atI_nat hx, x, t, rfl, TrAt.kt (Kt.same s2) t x hT, okt, fun H3 s3 => ?_⟩
  refine ⟨_, _, rfl, rfl, _, rfl, ite2 (fun cc => ?_) (fun cc => ?_)⟩
  · have e : t.len ≤ st - lens (b.take i) := of_decide_eq_true cc
    refine ⟨fun σ' H' => σ' = [some (.ref c), some (.int st), some (.int ((i + 1 : Nat) : Int)), some (.int (st - lens (b.take (i + 1))))] ∧ Same H H', ?_, ?_⟩
    · rintro σ' H' ⟨rfl, s'⟩
      exact ⟨b.length - (i + 1), by omega, i + 1, rfl, s', by rw [lens_nextL ht]; omega, rfl⟩
    · refine ⟨_, rfl, _, rfl, _, rfl, c, us, (i : Nat), x, rfl, rfl, (Kt.same s3).sq sqk, atI_nat hx, x, t, rfl, TrAt.kt (Kt.same (s2.trans s3)) t x hT, okt, fun H4 s4 => ?_⟩
      refine ⟨_, _, rfl, rfl, _, rfl, _, _, rfl, rfl, ?_, (s2.trans s3).trans s4⟩
      rw [lens_nextL ht, ← Int.sub_sub]
      rfl
  · have e : ¬ t.len ≤ st - lens (b.take i) := of_decide_eq_false (Bool.eq_false_iff.mpr cc)
    refine ⟨_, rfl, _, rfl, (by show 2 ≤ sizeLine; decide), fun p np => ?_⟩
    exact q i t (st - lens (b.take i)) p _ ht (by omega) (by omega) (by omega) ((s2.trans s3).trans (same_new np)) upd_same
def spLoc (K : PySem.W.Frag) (n : Nat) : Sp := fun vs H Q _ => ∃ (v : V) (b : List Tr) (st : Int), vs = [v, .int st] ∧ BodyAt K H b v ∧ okB (n + 1) b ∧ 0 ≤ st ∧ st < lens b ∧
  ∀ (ps : List Int) (z : Str) (as : List Int) p pa v' H', Same H H' → H' p = some (.tup [.ref pa, v']) → SqT K H' pa (ps.map V.int) → PT b ps (.op z as) 0 st → TrAt K H' (.op z as) v' → ps.length ≤ 100 → Q (.ref p) H'
theorem okB_up {n : Nat} {b : List Tr} (h : okB n b) : okB (n + 1) b := by
  cases n with
  | zero => exact h.elim
  | succ n => exact ⟨wfs_up h.1, h.2⟩
theorem okB_ups {b : List Tr} {n : Nat} : ∀ {m : Nat}, n ≤ m → okB n b → okB m b
  | 0, h, o => by
    obtain rfl : n = 0 := by omega
    exact o
  | m + 1, h, o => by
    by_cases e : n = m + 1
    · subst e
      exact o
    · exact okB_up (okB_ups (m := m) (by omega) o)
theorem ok_locate (M : Bl mg) (F : At K mg "locate" sLocate ["program", "step"]) {n k : Nat} (hn : n ≤ 6) (h1 : Has P w K mg base k "step_count" ["program"] (spTI K (okB (n + 1)) lens)) (h2 : Has P w K mg base k "is_between" ["value", "low", "high"] spBt) (h3 : Has P w K mg base k "place" ["program", "step"] (spPlace K n)) :
    Has P w K mg base (k + 1) "locate" ["program", "step"] (spLoc K n) := by
  obtain ⟨_, _, cStep_count⟩ := h1
  obtain ⟨_, _, cIs_between⟩ := h2
  obtain ⟨_, _, cPlace⟩ := h3
  refine Has.by F scLocate (fun vs H Q E h => ?_) (fun f cdv A out s H vs Q E hg hr h => ?_)
  · obtain ⟨_, _, _, rfl, _⟩ := h
    rfl
  obtain ⟨v, b, st, rfl, hB, ok, s0, s1, q⟩ := h
  refine ⟨_, (pss_cons (ps_if (pt_not (pt_val (pe_cal cIs_between hg hr (by rfl) (pa_cons (pv 1) (pa_cons pe_int (pa_cons (pe_op op_sub (pe_cal cStep_count hg hr (by rfl) (pa_cons (pv 0) pa_nil)) pe_int) pa_nil))))))
    (pss_one ps_never)
    pss_nil)
  (pss_cons (ps_asg (pe_cal cPlace hg hr (by rfl) (pa_cons (pv 0) (pa_cons (pv 1) pa_nil))) (pg_tup rfl (pgs_cons (pg_name (i := 2) scLocate.nd rfl (.inl rfl)) (pgs_cons (pg_name (i := 3) scLocate.nd rfl (.inl rfl)) pgs_nil))))
  (pss_cons (ps_set (i := 4) scLocate.nd rfl (.inl rfl) (pe_lst (pa_cons (pv 2) pa_nil)))
  (pss_cons (ps_set (i := 5) scLocate.nd rfl (.inl rfl) (pe_ix ix_tup (pv 0) (pv 2) (fun _ _ => rfl)))
  (pss_cons (ps_while PassesOwn.never (pt_cmpR op_eq (pe_ix ix_tup (pv 5) pe_int (fun _ _ => rfl)) pe_str (nomark _))
    (pss_cons (ps_set (i := 6) scLocate.nd rfl (.inl rfl) (pe_ix ix_tup (pv 5) pe_int (fun _ _ => rfl)))
  (pss_cons (ps_asg (pe_callB call_divmodW (by rfl) M.divmod_ (by decide +kernel) (pa_cons (pv 3) (pa_cons (pe_cal cStep_count hg hr (by rfl) (pa_cons (pv 6) pa_nil)) pa_nil))) (pg_tup rfl (pgs_cons (pg_name (i := 7) scLocate.nd rfl (.inl rfl)) (pgs_cons (pg_name (i := 3) scLocate.nd rfl (.inl rfl)) pgs_nil))))
  (pss_cons (ps_asg (pe_cal cPlace hg hr (by rfl) (pa_cons (pv 6) (pa_cons (pv 3) pa_nil))) (pg_tup rfl (pgs_cons (pg_name (i := 2) scLocate.nd rfl (.inl rfl)) (pgs_cons (pg_name (i := 3) scLocate.nd rfl (.inl rfl)) pgs_nil))))
  (pss_cons (ps_expr (pe_bm PySem.F.plainAttrs_list PySem.F.slot_list_extend PySem.F.type_list_extend mt_extend (pv 4) (pa_cons (pe_lst (pa_cons (pv 7) (pa_cons (pv 2) pa_nil))) pa_nil)))
  (pss_one (ps_set (i := 5) scLocate.nd rfl (.inl rfl) (pe_ix ix_tup (pv 6) (pv 2) (fun _ _ => rfl)))))))))
  (pss_one (ps_ret (pe_tup (pa_cons (pe_callTy call_tuple_of (by rfl) M.tuple_ (by decide +kernel) (pa_cons (pv 4) pa_nil)) (pa_cons (pv 5) pa_nil)))))))))), ?_⟩
  -- the step is one of the program
  refine ⟨_, rfl, _, rfl, v, b, rfl, hB, ok, fun H1 s1' => ?_⟩
  refine ⟨_, _, rfl, rfl, st, 0, lens b - 1, rfl, ?_⟩
  rw [decide_eq_true s0, decide_eq_true (show st ≤ lens b - 1 by omega)]
  refine ⟨_, rfl, iteF ?_⟩
  -- its place
  refine ⟨_, rfl, _, rfl, v, b, st, rfl, hB.kt (Kt.same s1'), ok, s0, s1, fun i t r p H2 ht r0 r1 er s2 hp => ?_⟩
  refine ⟨p, _, rfl, SqT.of hp, rfl, _, _, rfl, _, _, rfl, rfl, ?_⟩
  refine ⟨_, rfl, (by show 1 ≤ sizeLine; decide), fun pa npa => ?_⟩
  have s3 := same_new (o := .lst [V.int (i : Nat)]) npa
  have s13 : Same H _ := (s1'.trans s2).trans s3
  have nHpa : H pa = none := (s1'.trans s2).free npa
  obtain ⟨c, us, rfl, sq, tr⟩ := hB
  have ul := tr.length
  have il := (List.getElem?_eq_some_iff.mp ht).1
  obtain ⟨x, hx⟩ : ∃ x, us[i]? = some x := ⟨us[i]'(by omega), List.getElem?_eq_getElem (by omega)⟩
  obtain ⟨t', ht', hT⟩ := tr.get hx
  rw [ht] at ht'
  cases ht'
  refine ⟨_, rfl, _, rfl, c, us, (i : Nat), x, rfl, rfl, (Kt.same s13).sq sq, atI_nat hx, ?_⟩
  have pt0 : PT b [(i : Int)] t r st := by
    rw [er]
    exact .here ht
  refine ⟨fun m σ H' => ∃ (ps : List Int) (t : Tr) (x : V) (r : Int) (y2 y6 y7 : Option V), σ = [some (.ref c), some (.int st), y2, some (.int r), some (.ref pa), some x, y6, y7] ∧ Same H H' ∧ H' pa = some (.lst (ps.map V.int)) ∧ TrAt K H' t x ∧ PT b ps t r st ∧ 0 ≤ r ∧ r < t.len ∧ okB (m + 1) [t] ∧ m ≤ n ∧ ps.length + 2 * m ≤ 20,
    ⟨n, [(i : Int)], t, x, r, _, _, _, rfl, s13, upd_same, TrAt.kt (Kt.same s13) _ _ hT, pt0, r0, r1, ⟨by rw [wfs, wfs]; exact ⟨wfs_get ok.1 ht, trivial⟩, by show 1 ≤ 1000; decide⟩, Nat.le_refl _, by show 1 + 2 * n ≤ 20; omega⟩, ?_⟩
  rintro m σ H4 ⟨ps, t, x, r, y2, y6, y7, rfl, s4, h4, hT4, pt, r0, r1, okt, hm, hl⟩
  cases t with
  | op z as =>
    have hT0 := hT4
    rw [TrAt] at hT4
    obtain ⟨a, rfl, sq5⟩ := hT4
    refine ⟨_, rfl, a, _, 0, .str z, rfl, rfl, sq5, at0, rfl, _, rfl, iteN (fun e => okB_op (i := 0) okt rfl (V.str.inj e)) ?_⟩
    refine ⟨_, rfl, pa, _, rfl, .inl ⟨SqL.of h4, fun tp ntp => ?_⟩⟩
    have s5 := same_new (o := .tup (ps.map V.int)) ntp
    refine ⟨_, rfl, (by show 2 ≤ sizeLine; decide), fun p6 np6 => ?_⟩
    have s6 := same_new (o := .tup [V.ref tp, V.ref a]) np6
    rw [Tr.len] at r1
    have e0 : r = 0 := by omega
    subst e0
    exact q ps z as p6 tp (.ref a) _ ((s4.trans s5).trans s6) upd_same ((Kt.same s6).sq (SqT.of upd_same)) pt (TrAt.kt (Kt.same (s5.trans s6)) _ _ hT0) (by omega)
  | loop kk b' =>
    rw [TrAt] at hT4
    obtain ⟨a, g, ws, rfl, sq5, sq6, r2⟩ := hT4
    obtain ⟨c0, c1, ok2⟩ := okB_loop (i := 0) okt rfl
    obtain ⟨m', rfl⟩ : ∃ m', m = m' + 1 := by
      cases m with
      | zero => exact ok2.elim
      | succ m' => exact ⟨m', rfl⟩
    have ok3 : okB (n + 1) b' := okB_ups (by omega) ok2
    have hB' : BodyAt K H4 b' (.ref g) := ⟨g, ws, rfl, sq6, r2⟩
    rw [Tr.len] at r1
    have lp : 0 < lens b' := by
      have h0 := (lens_bd b' m' ok2.1).1
      by_cases z : lens b' = 0
      · rw [z, Int.mul_zero] at r1
        omega
      · omega
    have q0 := Int.emod_nonneg r (show lens b' ≠ 0 by omega)
    have q1 := Int.emod_lt_of_pos r lp
    have d0 : 0 ≤ r / lens b' := Int.ediv_nonneg r0 (by omega)
    have d1 : r / lens b' < kk := (Int.ediv_lt_iff_lt_mul lp).mpr r1
    refine ⟨_, rfl, a, _, 0, .str "loop", rfl, rfl, sq5, rfl, rfl, _, rfl, iteP rfl ?_⟩
    refine ⟨fun σ' H' => ∃ (ps : List Int) (t : Tr) (x : V) (r : Int) (y2 y6 y7 : Option V), σ' = [some (.ref c), some (.int st), y2, some (.int r), some (.ref pa), some x, y6, y7] ∧ Same H H' ∧ H' pa = some (.lst (ps.map V.int)) ∧ TrAt K H' t x ∧ PT b ps t r st ∧ 0 ≤ r ∧ r < t.len ∧ okB (m' + 1) [t] ∧ m' ≤ n ∧ ps.length + 2 * m' ≤ 20, fun σ' H' h => ⟨m', by omega, h⟩, ?_⟩
    refine ⟨_, rfl, a, _, 2, .ref g, rfl, rfl, sq5, rfl, ?_⟩
    refine ⟨_, rfl, _, rfl, _, b', rfl, hB', ok3, fun H5 s5 => ?_⟩
    refine ⟨r, lens b', rfl, div_ok (k := 1000) lp (lens_log ok2 (by omega)) (by decide) (by decide), fun p6 np6 => ?_⟩
    have s6 := same_new (o := .tup [.int (r / lens b'), .int (r % lens b')]) np6
    refine ⟨p6, _, rfl, SqT.of upd_same, rfl, _, _, rfl, _, _, rfl, rfl, ?_⟩
    have s56 := s5.trans s6
    refine ⟨_, rfl, _, rfl, _, b', r % lens b', rfl, hB'.kt (Kt.same s56), ok3, q0, q1, fun j t7 r7 p7 H7 ht7 r70 r71 er7 s7 hp7 => ?_⟩
    refine ⟨p7, _, rfl, SqT.of hp7, rfl, _, _, rfl, _, _, rfl, rfl, ?_⟩
    have s57 := s56.trans s7
    have h7 := s57 _ _ h4
    refine ⟨_, rfl, .inl ⟨rfl, _, SqL.of h7⟩, _, rfl, _, rfl, (by show 2 ≤ sizeLine; decide), fun l8 nl8 => ?_⟩
    have s8 := same_new (o := .lst [V.int (r / lens b'), V.int (j : Nat)]) nl8
    have h8 := s8 _ _ h7
    refine ⟨pa, l8, _, _, rfl, rfl, h8, upd_same, ?_, ?_⟩
    · rw [List.length_map]
      exact small (by show ps.length + 2 ≤ 1000; omega)
    have kt9 : Kt H4 (upd (upd H7 l8 (.lst [V.int (r / lens b'), V.int (j : Nat)])) pa (.lst (ps.map V.int ++ [V.int (r / lens b'), V.int (j : Nat)]))) := (Kt.same (s57.trans s8)).trans (Kt.but But.upd h8)
    have il7 := (List.getElem?_eq_some_iff.mp ht7).1
    have wl := r2.length
    obtain ⟨x7, hx7⟩ : ∃ x, ws[j]? = some x := ⟨ws[j]'(by omega), List.getElem?_eq_getElem (by omega)⟩
    obtain ⟨t7', ht7', hT7⟩ := r2.get hx7
    rw [ht7] at ht7'
    cases ht7'
    refine ⟨_, rfl, _, rfl, g, ws, (j : Nat), x7, rfl, rfl, kt9.sq sq6, atI_nat hx7, ?_⟩
    refine ⟨ps ++ [r / lens b', (j : Int)], t7, x7, r7, _, _, _, rfl, same_upd ((s4.trans s57).trans s8) nHpa, ?_, TrAt.kt kt9 _ _ hT7, pt.deeper rfl d0 d1 ht7 ?_, r70, r71, ⟨by rw [wfs, wfs]; exact ⟨wfs_get ok2.1 ht7, trivial⟩, by show 1 ≤ 1000; decide⟩, by omega, ?_⟩
    · rw [upd_same, List.map_append]
      rfl
    · have := Int.emod_def r (lens b')
      rw [← er7, this, Int.mul_comm (r / lens b')]
      omega
    · rw [List.length_append]
      show ps.length + 2 + 2 * m' ≤ 20
      omega
end
end K08
set_option Elab.async false
set_option linter.all false
set_option maxRecDepth 100000
namespace K08
open PySem PySem.Spec PyProof.Rows L2 Lj
section
variable {P : Program} {w : World} {K : PySem.W.Frag} {mg : Str → Option Value} {base : Heap}
/-! ### the number of a path -/
def spNumber (K : PySem.W.Frag) (n : Nat) : Sp := fun vs H Q _ => ∃ (v : V) (pa : Addr) (b : List Tr) (ps : List Int) (t : Tr) (st : Int), vs = [v, .ref pa] ∧ BodyAt K H b v ∧ okB n b ∧ SqT K H pa (ps.map V.int) ∧ PT b ps t 0 st ∧ ∀ H', Same H H' → Q (.int st) H'
theorem ok_number1 (M : Bl mg) (F : At K mg "_law_number" sNumber ["_law_program", "_law_path_here"]) {n k : Nat} (h : Has P w K mg base k "_law_number" ["_law_program", "_law_path_here"] (spNumber K n)) (h2 : Has P w K mg base k "_law_steps" ["_law_program"] (spTI K (okB (n + 1)) lens)) : Has P w K mg base (k + 1) "_law_number" ["_law_program", "_law_path_here"] (spNumber K (n + 1)) := by
  obtain ⟨_, _, cNumber⟩ := h
  obtain ⟨_, _, cSteps⟩ := h2
  refine Has.by F scNumber (fun vs H Q E h => ?_) (fun f cdv A out s H vs Q E hg hr h => ?_)
  · obtain ⟨_, _, _, _, _, _, rfl, _⟩ := h
    rfl
  obtain ⟨v, pa, b, ps, t, st, rfl, ⟨c, us, rfl, sq, r⟩, ok, sqp, pt, q⟩ := h
  refine ⟨_, (pss_cons (ps_set (i := 2) scNumber.nd rfl (.inl rfl) (pe_ix ix_tup (pv 1) pe_int (fun _ _ => rfl)))
  (pss_cons (ps_set (i := 3) scNumber.nd rfl (.inl rfl) (pe_cal cSteps hg hr (by rfl) (pa_cons (pe_slice sl_tupA (pv 0) po_none (po_some (pv 2))) pa_nil)))
  (pss_cons (ps_if (pt_cmpR op_eq (pe_callB call_len_seq (by rfl) M.len_ (by decide +kernel) (pa_cons (pv 1) pa_nil)) pe_int (nomark _))
    (pss_one (ps_ret (pv 3)))
    pss_nil)
  (pss_cons (ps_set (i := 4) scNumber.nd rfl (.inl rfl) (pe_ix ix_tup (pe_ix ix_tup (pv 0) (pv 2) (fun _ _ => rfl)) pe_int (fun _ _ => rfl)))
  (pss_one (ps_ret (pe_op op_add (pe_op op_add (pv 3) (pe_op op_mul (pe_ix ix_tup (pv 1) pe_int (fun _ _ => rfl)) (pe_cal cSteps hg hr (by rfl) (pa_cons (pv 4) pa_nil)))) (pe_cal cNumber hg hr (by rfl) (pa_cons (pv 4) (pa_cons (pe_slice sl_tup (pv 1) (po_some pe_int) po_none) pa_nil)))))))))), ?_⟩
  obtain ⟨i, rest, hps⟩ : ∃ (i : Nat) (rest : List Int), ps = (i : Int) :: rest := by
    cases pt with
    | @here _ i _ _ e => exact ⟨i, [], rfl⟩
    | @into _ _ i _ turn _ _ _ ps' e _ _ _ => exact ⟨i, turn :: ps', rfl⟩
  have okt : okB (n + 1) (b.take i) := ⟨wfs_take ok.1, by rw [List.length_take]; have := ok.2; omega⟩
  subst hps
  refine ⟨_, rfl, pa, _, 0, .int (i : Nat), rfl, rfl, sqp, at0, ?_⟩
  refine ⟨_, rfl, _, rfl, (i : Nat), rfl, body_cut (c := b.take i) sq r (by rw [cut_to]; exact r.take i) fun v3 H3 s3 hB3 => ?_⟩
  refine ⟨v3, b.take i, rfl, hB3, okt, fun H4 s4 => ?_⟩
  have s34 := s3.trans s4
  have sqp4 := (Kt.same s34).sq sqp
  refine ⟨_, rfl, pa, _, rfl, .inr sqp4, rfl, _, rfl, ?_⟩
  generalize hr0 : (0 : Int) = r0 at pt
  generalize hpp : ((i : Int) :: rest) = pp at pt
  cases pt with
  | @here _ j _ _ e =>
    subst hr0
    injection hpp with e1 e2
    have : j = i := by omega
    subst this
    subst e2
    refine iteP rfl ⟨_, rfl, ?_⟩
    have q4 := q H4 s34
    rw [Int.add_zero] at q4
    exact q4
  | @into _ b' j kk turn _ st' _ ps' e h0 h1 p' =>
    subst hr0
    injection hpp with e1 e2
    have : j = i := by omega
    subst this
    subst e2
    refine iteN (fun z => ?_) ?_
    · have z : (((V.int (j : Nat) :: V.int turn :: ps'.map V.int).length : Nat) : Int) = 1 := V.int.inj z
      rw [List.length_cons, List.length_cons] at z
      omega
    have jl := (List.getElem?_eq_some_iff.mp e).1
    have ul := r.length
    obtain ⟨y, hy⟩ : ∃ y, us[j]? = some y := ⟨us[j]'(by omega), List.getElem?_eq_getElem (by omega)⟩
    obtain ⟨t', ht', hT⟩ := r.get hy
    rw [e] at ht'
    cases ht'
    rw [TrAt] at hT
    obtain ⟨a, g, ws, rfl, sq5, sq6, r6⟩ := hT
    obtain ⟨c0, c1, ok2⟩ := okB_loop ok e
    have hB4 : BodyAt K H4 b' (.ref g) := ⟨g, ws, rfl, (Kt.same s34).sq sq6, TrsAt.kt (Kt.same s34) _ _ r6⟩
    refine ⟨_, rfl, _, rfl, c, us, (j : Nat), .ref a, rfl, rfl, (Kt.same s34).sq sq, atI_nat hy, a, _, 2, .ref g, rfl, rfl, (Kt.same s34).sq sq5, rfl, ?_⟩
    refine ⟨_, rfl, _, rfl, pa, _, 1, .int turn, rfl, rfl, sqp4, atI_nat (j := 1) rfl, _, rfl, _, b', rfl, hB4, okB_up ok2, fun H5 s5 => ?_⟩
    refine ⟨turn, lens b', rfl, rfl, .inl ⟨by omega, by omega⟩, _, _, rfl, rfl, _, rfl, _, rfl, 2, rfl, pa, _, rfl, (Kt.same s5).sq sqp4, cut_two_ne _ _ _, fun p6 np6 => ?_⟩
    rw [List.map_cons, List.map_cons, cut_two]
    have s6 := same_new (o := .tup (ps'.map V.int)) np6
    refine ⟨_, p6, b', ps', t, st', rfl, hB4.kt (Kt.same (s5.trans s6)), ok2, SqT.of upd_same, p', fun H7 s7 => ?_⟩
    refine ⟨_, _, rfl, rfl, ?_⟩
    have q7 := q H7 ((s34.trans (s5.trans s6)).trans s7)
    rw [← Int.add_assoc] at q7
    exact q7
theorem ok_number (M : Bl mg) (F : At K mg "_law_number" sNumber ["_law_program", "_law_path_here"]) (FS : At K mg "_law_steps" sSteps ["_law_program"]) : ∀ n, Has P w K mg base (n + 1) "_law_number" ["_law_program", "_law_path_here"] (spNumber K n)
  | 0 => Has.none F fun vs H Q E ⟨_, _, _, _, _, _, _, _, h, _⟩ => h
  | n + 1 => ok_number1 M F (ok_number M F FS n) (ok_lsteps M FS (n + 1))
/-! ### the instruction at a path -/
def spItemAt (K : PySem.W.Frag) (n : Nat) : Sp := fun vs H Q _ => ∃ (v : V) (pa : Addr) (b : List Tr) (ps : List Int) (t : Tr) (r st : Int), vs = [v, .ref pa] ∧ BodyAt K H b v ∧ okB n b ∧ SqT K H pa (ps.map V.int) ∧ PT b ps t r st ∧ ∀ v' H', Same H H' → TrAt K H' t v' → Q v' H'
theorem ok_itemat1 (M : Bl mg) (F : At K mg "_law_item_at" sItem_at ["_law_program", "_law_path_here"]) {n k : Nat} (h : Has P w K mg base k "_law_item_at" ["_law_program", "_law_path_here"] (spItemAt K n)) : Has P w K mg base (k + 1) "_law_item_at" ["_law_program", "_law_path_here"] (spItemAt K (n + 1)) := by
  obtain ⟨_, _, cItem_at⟩ := h
  refine Has.by F scItem_at (fun vs H Q E h => ?_) (fun f cdv A out s H vs Q E hg hr h => ?_)
  · obtain ⟨_, _, _, _, _, _, _, rfl, _⟩ := h
    rfl
  obtain ⟨v, pa, b, ps, t, r0, st, rfl, ⟨c, us, rfl, sq, r⟩, ok, sqp, pt, q⟩ := h
  refine ⟨_, (pss_cons (ps_if (pt_cmpR op_eq (pe_callB call_len_seq (by rfl) M.len_ (by decide +kernel) (pa_cons (pv 1) pa_nil)) pe_int (nomark _))
    (pss_one (ps_ret (pe_ix ix_tup (pv 0) (pe_ix ix_tup (pv 1) pe_int (fun _ _ => rfl)) (fun _ _ => rfl))))
    pss_nil)
  (pss_one (ps_ret (pe_cal cItem_at hg hr (by rfl) (pa_cons (pe_ix ix_tup (pe_ix ix_tup (pv 0) (pe_ix ix_tup (pv 1) pe_int (fun _ _ => rfl)) (fun _ _ => rfl)) pe_int (fun _ _ => rfl)) (pa_cons (pe_slice sl_tup (pv 1) (po_some pe_int) po_none) pa_nil)))))), ?_⟩
  refine ⟨_, rfl, pa, _, rfl, .inr sqp, rfl, _, rfl, ?_⟩
  have ul := r.length
  cases pt with
  | @here _ j _ _ e =>
    have jl := (List.getElem?_eq_some_iff.mp e).1
    obtain ⟨y, hy⟩ : ∃ y, us[j]? = some y := ⟨us[j]'(by omega), List.getElem?_eq_getElem (by omega)⟩
    obtain ⟨t', ht', hT⟩ := r.get hy
    rw [e] at ht'
    cases ht'
    refine iteP rfl ⟨_, rfl, _, rfl, pa, _, 0, .int (j : Nat), rfl, rfl, sqp, at0, c, us, (j : Nat), y, rfl, rfl, sq, atI_nat hy, ?_⟩
    exact q y H (Same.refl H) hT
  | @into _ b' j kk turn _ st' _ ps' e h0 h1 p' =>
    have jl := (List.getElem?_eq_some_iff.mp e).1
    obtain ⟨y, hy⟩ : ∃ y, us[j]? = some y := ⟨us[j]'(by omega), List.getElem?_eq_getElem (by omega)⟩
    obtain ⟨t', ht', hT⟩ := r.get hy
    rw [e] at ht'
    cases ht'
    rw [TrAt] at hT
    obtain ⟨a, g, ws, rfl, sq5, sq6, r6⟩ := hT
    obtain ⟨c0, c1, ok2⟩ := okB_loop ok e
    refine iteN (fun z => ?_) ?_
    · have z : (((V.int (j : Nat) :: V.int turn :: ps'.map V.int).length : Nat) : Int) = 1 := V.int.inj z
      rw [List.length_cons, List.length_cons] at z
      omega
    refine ⟨_, rfl, _, rfl, pa, _, 0, .int (j : Nat), rfl, rfl, sqp, at0, c, us, (j : Nat), .ref a, rfl, rfl, sq, atI_nat hy, a, _, 2, .ref g, rfl, rfl, sq5, rfl, _, rfl, 2, rfl, pa, _, rfl, sqp, cut_two_ne _ _ _, fun p6 np6 => ?_⟩
    rw [List.map_cons, List.map_cons, cut_two]
    have s6 := same_new (o := .tup (ps'.map V.int)) np6
    have hB : BodyAt K H b' (.ref g) := ⟨g, ws, rfl, sq6, r6⟩
    exact ⟨_, p6, b', ps', t, r0, st', rfl, hB.kt (Kt.same s6), ok2, SqT.of upd_same, p', fun v' H7 s7 hT7 => q v' H7 (s6.trans s7) hT7⟩
theorem ok_itemat (M : Bl mg) (F : At K mg "_law_item_at" sItem_at ["_law_program", "_law_path_here"]) : ∀ n, Has P w K mg base n "_law_item_at" ["_law_program", "_law_path_here"] (spItemAt K n)
  | 0 => Has.none F fun vs H Q E ⟨_, _, _, _, _, _, _, _, _, h, _⟩ => h
  | n + 1 => ok_itemat1 M F (ok_itemat M F n)
end
end K08
set_option Elab.async false
set_option linter.all false
set_option maxRecDepth 100000
namespace K08
open PySem PySem.Spec PyProof.Rows L2 Lj
section
variable {P : Program} {w : World} {K : PySem.W.Frag} {mg : Str → Option Value} {base : Heap}
/-! ### a drawn path -/
def spPath (K : PySem.W.Frag) (n : Nat) : Sp := fun vs H Q _ => ∃ (u : Addr) (v : V) (b : List Tr), vs = [.ref u, v] ∧ Urn H u ∧ BodyAt K H b v ∧ okB n b ∧ 0 < lens b ∧
  ∀ (ps : List Int) (z : Str) (as : List Int) (st : Int) pa H', PT b ps (.op z as) 0 st → ps.length + 2 ≤ 2 * n + 2 → SqT K H' pa (ps.map V.int) → Urn H' u → But u H H' → Q (.ref pa) H'
theorem some_pos {b : List Tr} (h : 0 < lens b) : ∃ (i : Nat) (t : Tr), b[i]? = some t ∧ 0 < t.len := by
  induction b with
  | nil => rw [lens] at h; omega
  | cons a r ih =>
    rw [lens] at h
    by_cases g : 0 < a.len
    · exact ⟨0, a, rfl, g⟩
    · obtain ⟨i, t, e, l⟩ := ih (by omega)
      exact ⟨i + 1, t, e, l⟩
theorem ok_path1 (M : Bl mg) (F : At K mg "_law_path" sPath ["_law_urn_here", "_law_program"]) {n k : Nat} (hn : n ≤ 6) (h : Has P w K mg base k "_law_path" ["_law_urn_here", "_law_program"] (spPath K n)) (h2 : Has P w K mg base k "_law_steps" ["_law_program"] (spTI K (okB (n + 1)) lens))
    (h3 : Has P w K mg base k "_law_of" ["_law_urn_here", "_law_items"] (spOf K)) (h4 : Has P w K mg base k "_law_take" ["_law_urn_here", "_law_below"] spTake) : Has P w K mg base (k + 1) "_law_path" ["_law_urn_here", "_law_program"] (spPath K (n + 1)) := by
  obtain ⟨_, _, cPath⟩ := h
  obtain ⟨_, _, cSteps⟩ := h2
  obtain ⟨_, _, cOf⟩ := h3
  obtain ⟨_, _, cTake⟩ := h4
  refine Has.by F scPath (fun vs H Q E h => ?_) (fun f cdv A out s H vs Q E hg hr h => ?_)
  · obtain ⟨_, _, _, rfl, _⟩ := h
    rfl
  obtain ⟨u, v, b, rfl, hU, ⟨c, us, rfl, sq, r⟩, ok, lp, q⟩ := h
  refine ⟨_, (pss_cons (ps_setLc (i := 3) (own := [("_law_index", 2)]) (g := gName 2) (by rfl) scPath.nd rfl rfl (sw_true rfl rfl rfl (by decide +kernel)) (pi_range1 (by rfl) M.range_ (pa_cons (pe_callB call_len_seq (by rfl) M.len_ (by decide +kernel) (pa_cons (pv 1) pa_nil)) pa_nil)) (blkOk_by (own := [("_law_index", 2)]) (N := ["_law_urn_here", "_law_program", "_law_index", "_law_some", "_law_rounds", "_law_turn"]) (sc := defScope sPath) (by decide +kernel)) (fun _ _ _ _ _ => (pg_name (i := 2) scPath.nd rfl (.inl rfl))) (fun _ _ _ _ _ => (pts_one (pt_cmpR op_gt (pe_cal cSteps hg hr (by rfl) (pa_cons (pe_slice (sl_tupAK (K := K) rfl) (pv 1) (po_some (pv 2)) (po_some (pe_op op_add (pv 2) pe_int))) pa_nil)) pe_int (nomark _)))) (fun _ _ _ _ _ => (pv 2)))
  (pss_cons (ps_if (pt_cmpR (op_eqD hr.units) (pv 3) (pe_lst pa_nil) (nomark _))
    (pss_one (ps_ret (pe_tup pa_nil)))
    pss_nil)
  (pss_cons (ps_set (i := 2) scPath.nd rfl (.inl rfl) (pe_cal cOf hg hr (by rfl) (pa_cons (pv 0) (pa_cons (pv 3) pa_nil))))
  (pss_cons (ps_if (pt_cmpR op_ne (pe_ix ix_tup (pe_ix ix_tup (pv 1) (pv 2) (fun _ _ => rfl)) pe_int (fun _ _ => rfl)) pe_str (nomark _))
    (pss_one (ps_ret (pe_tup (pa_cons (pv 2) pa_nil))))
    pss_nil)
  (pss_cons (ps_set (i := 4) scPath.nd rfl (.inl rfl) (pe_ix ix_tup (pe_ix ix_tup (pv 1) (pv 2) (fun _ _ => rfl)) pe_int (fun _ _ => rfl)))
  (pss_cons (ps_set (i := 5) scPath.nd rfl (.inl rfl) (pe_cal cOf hg hr (by rfl) (pa_cons (pv 0) (pa_cons (pe_lst (pa_cons pe_int (pa_cons (pe_op op_sub (pv 4) pe_int) (pa_cons (pe_cal cTake hg hr (by rfl) (pa_cons (pv 0) (pa_cons (pv 4) pa_nil))) (pa_cons (pe_op op_fdiv (pv 4) pe_int) pa_nil))))) pa_nil))))
  (pss_one (ps_ret (pe_op op_catA (pe_tup (pa_cons (pv 2) (pa_cons (pv 5) pa_nil))) (pe_cal cPath hg hr (by rfl) (pa_cons (pv 0) (pa_cons (pe_ix ix_tup (pe_ix ix_tup (pv 1) (pv 2) (fun _ _ => rfl)) pe_int (fun _ _ => rfl)) pa_nil)))))))))))), ?_⟩
  have ul := r.length
  have bl := ok.2
  refine ⟨_, rfl, c, us, rfl, .inr sq, _, rfl, by omega, by omega, fun D nD => ?_⟩
  rw [show ((us.length : Int)).toNat = us.length from rfl]
  have nDu : D ≠ u := hU.ne nD
  refine lc_range (lo := 0) (n := us.length) (fun j H' => ∃ ms : List Nat, H' D = some (.lst (ms.map fun m : Nat => V.int (m : Nat))) ∧ ms.length ≤ j ∧ Same H H' ∧ (∀ m ∈ ms, ∃ t, b[m]? = some t ∧ 0 < t.len) ∧ (∀ (m : Nat) (t : Tr), m < j → b[m]? = some t → 0 < t.len → m ∈ ms))
    ⟨[], upd_same, Nat.le_refl _, same_new nD, (fun m k => absurd k List.not_mem_nil), fun m t hm => absurd hm (Nat.not_lt_zero _)⟩ ?_ ?_
  · rintro i H5 hi ⟨ms, e1, e2, s5, e3, e4⟩
    rw [show (0 : Int) + (i : Nat) = (i : Nat) from Int.zero_add _]
    have il : i < b.length := by omega
    obtain ⟨t, ht⟩ : ∃ t, b[i]? = some t := ⟨b[i], List.getElem?_eq_getElem il⟩
    have okt : okB (n + 1) [t] := ⟨by rw [wfs, wfs]; exact ⟨wfs_get ok.1 ht, trivial⟩, by show 1 ≤ 1000; decide⟩
    have sq5 := (Kt.same s5).sq sq
    have r5 := TrsAt.kt (Kt.same s5) _ _ r
    have eb : (b.drop i).take 1 = [t] := by
      rw [List.drop_eq_getElem_cons il]
      have := (List.getElem?_eq_some_iff.mp ht).2
      rw [this]
      rfl
    refine ⟨rfl, ?_⟩
    refine ⟨_, rfl, _, rfl, (i : Nat), rfl, _, rfl, _, 1, rfl, rfl, _, rfl, body_cut (c := (b.drop i).take 1) sq5 r5 (by rw [cut_mid us i (by omega)]; exact (r5.drop i).take 1) fun v6 H6 s6 hB6 => ?_⟩
    rw [eb] at hB6
    refine ⟨v6, [t], rfl, hB6, okt, fun H7 s7 => ?_⟩
    rw [show lens [t] = t.len by rw [lens, lens, Int.add_zero]]
    have s67 := s6.trans s7
    have h7 := s67 _ _ e1
    refine ⟨_, _, rfl, rfl, _, rfl, ite2 (fun cc => ?_) (fun cc => ?_)⟩
    · have t0 : 0 < t.len := of_decide_eq_true cc
      refine ⟨_, rfl, _, h7, ?_, ms ++ [i], ?_, by rw [List.length_append]; exact Nat.succ_le_succ e2, same_upd (s5.trans s67) (by exact (show H D = none from nD)), fun m k => ?_, fun m t' hm ht' tl => ?_⟩
      · rw [List.length_map]
        exact small1000 (by omega)
      · rw [upd_same, List.map_append]
        rfl
      · rcases List.mem_append.mp k with k | k
        · exact e3 m k
        · rw [List.mem_singleton.mp k]
          exact ⟨t, ht, t0⟩
      · by_cases g : m = i
        · exact List.mem_append.mpr (.inr (List.mem_singleton.mpr g))
        · exact List.mem_append.mpr (.inl (e4 m t' (by omega) ht' tl))
    · have t0 : ¬ 0 < t.len := of_decide_eq_false (Bool.eq_false_iff.mpr cc)
      refine ⟨ms, h7, by omega, s5.trans s67, e3, fun m t' hm ht' tl => ?_⟩
      by_cases g : m = i
      · subst g
        rw [ht] at ht'
        cases ht'
        exact absurd tl t0
      · exact e4 m t' (by omega) ht' tl
  rintro H5 ⟨ms, e1, e2, s5, e3, e4⟩
  obtain ⟨i0, t0, g1, g2⟩ := some_pos lp
  have i0m := e4 i0 t0 (by have := (List.getElem?_eq_some_iff.mp g1).1; omega) g1 g2
  -- some == []
  refine ⟨_, rfl, Nat.zero_le _, fun e6 ne6 => ?_⟩
  have s6 := same_new (o := .lst []) ne6
  have dpm : DpAll K (upd H5 e6 (.lst [])) (ms.map fun m : Nat => V.int (m : Nat)) ((ms.map fun m : Nat => (m : Int)).map PyData.int) := by
    have := dp_ints (K := K) (H := upd H5 e6 (.lst [])) (ms.map fun m : Nat => (m : Int))
    rw [List.map_map] at this
    exact this
  refine ⟨.list ((ms.map fun m : Nat => (m : Int)).map PyData.int), .list [], .lst (SqL.of (s6 _ _ e1)) dpm, .lst (SqL.of upd_same) .nil, shaped_ints _, shaped_nil, _, rfl, ?_⟩
  rw [eqv_nil, show (List.isEmpty ((ms.map fun m : Nat => (m : Int)).map PyData.int)) = false by
    cases ms with
    | nil => exact absurd i0m List.not_mem_nil
    | cons a r => rfl]
  refine iteF ?_
  have u6 := (hU.same s5).same s6
  have h6 := s6 _ _ e1
  -- index
  refine ⟨_, rfl, _, rfl, u, D, _, rfl, u6, nDu, SqL.of h6, ?_, ?_, fun x H7 hx u7 b7 => ?_⟩
  · intro z
    cases ms with
    | nil => exact absurd i0m List.not_mem_nil
    | cons a r => cases z
  · rw [List.length_map]
    omega
  obtain ⟨i, hi, rfl⟩ := List.mem_map.mp hx
  obtain ⟨t, ht, tl⟩ := e3 i hi
  have il := (List.getElem?_eq_some_iff.mp ht).1
  obtain ⟨y, hy⟩ : ∃ y, us[i]? = some y := ⟨us[i]'(by omega), List.getElem?_eq_getElem (by omega)⟩
  obtain ⟨t', ht', hT⟩ := r.get hy
  rw [ht] at ht'
  cases ht'
  have bA : But u H H7 := (But.same (s5.trans s6)).trans b7
  have ktA := hU.kt bA
  have sq7 := ktA.sq sq
  have hT7 := TrAt.kt ktA _ _ hT
  cases t with
  | op z as =>
    rw [TrAt] at hT7
    obtain ⟨a, rfl, sq8⟩ := hT7
    refine ⟨_, rfl, _, rfl, c, us, (i : Nat), .ref a, rfl, rfl, sq7, atI_nat hy, a, _, 0, .str z, rfl, rfl, sq8, at0, rfl, _, rfl, iteNN (fun e => okB_op ok ht (V.str.inj e)) ?_⟩
    refine ⟨_, rfl, (by show 1 ≤ sizeLine; decide), fun p np => ?_⟩
    exact q [(i : Int)] z as _ p _ (.here ht) (by show 1 + 2 ≤ _; omega) (SqT.of upd_same) (u7.same (same_new np)) (bA.trans (But.new np))
  | loop kk b' =>
    rw [TrAt] at hT7
    obtain ⟨a, g, ws, rfl, sq8, sq9, r9⟩ := hT7
    obtain ⟨c0, c1, ok2⟩ := okB_loop ok ht
    rw [Tr.len] at tl
    have kp : 0 < kk ∧ 0 < lens b' := by
      cases n with
      | zero => exact ok2.elim
      | succ n' =>
        have l0 := (lens_bd b' n' ok2.1).1
        by_cases z : lens b' = 0
        · rw [z, Int.mul_zero] at tl
          omega
        · by_cases z2 : kk = 0
          · rw [z2, Int.zero_mul] at tl
            omega
          · omega
    refine ⟨_, rfl, _, rfl, c, us, (i : Nat), .ref a, rfl, rfl, sq7, atI_nat hy, a, _, 0, .str "loop", rfl, rfl, sq8, rfl, rfl, _, rfl, iteNS rfl ?_⟩
    refine ⟨_, rfl, _, rfl, c, us, (i : Nat), .ref a, rfl, rfl, sq7, atI_nat hy, a, _, 1, .int kk, rfl, rfl, sq8, rfl, ?_⟩
    -- turn
    refine ⟨_, rfl, _, rfl, kk, 1, rfl, rfl, _, rfl, _, rfl, u, kk, rfl, u7, kp.1, wide_big (by omega) (by omega), fun d H8 d0 d1 u8 b8 => ?_⟩
    refine ⟨_, rfl, kk, 2, rfl, rfl, ⟨by decide, by decide⟩, (by show 4 ≤ sizeLine; decide), fun l9 nl9 => ?_⟩
    have s9 := same_new (o := .lst [V.int 0, V.int (kk - 1), V.int d, V.int (kk / 2)]) nl9
    refine ⟨u, l9, _, rfl, u8.same s9, u8.ne nl9, SqL.of upd_same, (by intro z; cases z), (by show 4 ≤ 1000; decide), fun tv H10 htv u10 b10 => ?_⟩
    obtain ⟨turn, rfl, q0, q1⟩ : ∃ turn : Int, tv = .int turn ∧ 0 ≤ turn ∧ turn < kk := by
      simp only [List.mem_cons, List.not_mem_nil, or_false] at htv
      rcases htv with rfl | rfl | rfl | rfl
      · exact ⟨0, rfl, by omega, by omega⟩
      · exact ⟨kk - 1, rfl, by omega, by omega⟩
      · exact ⟨d, rfl, d0, d1⟩
      · exact ⟨kk / 2, rfl, by omega, by omega⟩
    have b710 : But u H7 H10 := (b8.trans (But.same s9)).trans b10
    have kt10 := u7.kt b710
    refine ⟨_, rfl, _, rfl, (by show 2 ≤ sizeLine; decide), fun p11 np11 => ?_⟩
    have s11 := same_new (o := .tup [V.int (i : Nat), V.int turn]) np11
    have kt11 := kt10.trans (Kt.same s11)
    refine ⟨_, rfl, _, rfl, _, rfl, c, us, (i : Nat), .ref a, rfl, rfl, kt11.sq sq7, atI_nat hy, a, _, 2, .ref g, rfl, rfl, kt11.sq sq8, rfl, u, _, b', rfl, u10.same s11, ⟨g, ws, rfl, kt11.sq sq9, TrsAt.kt kt11 _ _ r9⟩, ok2, kp.2, fun ps z as st pa H12 pt lps sqp u12 b12 => ?_⟩
    have np11u : p11 ≠ u := u10.ne np11
    have h12 := b12 _ _ np11u (upd_same (H := H10) (a := p11) (o := .tup [V.int (i : Nat), V.int turn]))
    refine ⟨p11, pa, _, _, rfl, rfl, SqT.of h12, sqp, ?_, (fun z => by cases z), fun _ z => ?_, fun _ _ p13 np13 => ?_⟩
    · rw [List.length_map]
      exact small (by show 2 + ps.length ≤ 1000; omega)
    · exact absurd (List.map_eq_nil_iff.mp z) pt.ne
    · exact q ((i : Int) :: turn :: ps) z as _ p13 _ (.into ht q0 q1 pt) (by rw [List.length_cons, List.length_cons]; omega) (SqT.of upd_same) (u12.same (same_new np13)) (((bA.trans b710).trans ((But.same s11).trans b12)).trans (But.new np13))
theorem ok_path (M : Bl mg) (F : At K mg "_law_path" sPath ["_law_urn_here", "_law_program"]) (FS : At K mg "_law_steps" sSteps ["_law_program"]) (h3 : Has P w K mg base 2 "_law_of" ["_law_urn_here", "_law_items"] (spOf K)) (h4 : Has P w K mg base 1 "_law_take" ["_law_urn_here", "_law_below"] spTake) :
    ∀ n, n ≤ 7 → Has P w K mg base (n + 2) "_law_path" ["_law_urn_here", "_law_program"] (spPath K n)
  | 0, _ => Has.none F fun vs H Q E ⟨_, _, _, _, _, _, h, _⟩ => h
  | n + 1, hn => ok_path1 M F (by omega) (ok_path M F FS h3 h4 n (by omega)) ((ok_lsteps M FS (n + 1)).up (by omega)) (h3.up (by omega)) (h4.up (by omega))
/-! ### right -/
def spRight (K : PySem.W.Frag) (d : Nat) : Sp := fun vs H Q _ => ∃ (u : Addr) (v : V) (b : List Tr), vs = [.ref u, v] ∧ Urn H u ∧ BodyAt K H b v ∧ okB (d + 1) b ∧ allGs Short b ∧ ∀ H', Urn H' u → But u H H' → Q (.bl true) H'
theorem dat_shaped {z : Str} {as : List Int} (h : Short z as) : SeqAt.shaped (Tr.datT (.op z as)) = true := by
  unfold SeqAt.shaped
  rw [Tr.datT, PyData.canLay0, PyData.canLayAll0, PyData.canLay0, W7_ok h.1, lay_ints, PyData.depth, PyData.depthAll, PyData.depth, depth_ints]
  rfl
theorem lens_900 {b : List Tr} {d : Nat} (h : okB (d + 1) b) (hd : d ≤ 6) : 0 ≤ lens b ∧ lens b + 1 < 2 ^ 1000 := by
  obtain ⟨h0, h1⟩ := lens_bd b d h.1
  have tp := top_pos d
  have h2 : lens b ≤ 1000 * top d := Int.le_trans h1 (Int.mul_le_mul_of_nonneg_right (by have := h.2; omega) (by omega))
  have h3 : 1000 * top d + 1 < 2 ^ 1000 := by
    have : d = 0 ∨ d = 1 ∨ d = 2 ∨ d = 3 ∨ d = 4 ∨ d = 5 ∨ d = 6 := by omega
    rcases this with rfl | rfl | rfl | rfl | rfl | rfl | rfl <;> decide +kernel
  exact ⟨h0, by omega⟩
theorem ok_right (M : Bl mg) (F : At K mg "_law_right" sRight ["_law_urn_here", "_law_program"]) {d k : Nat} (hd : d ≤ 6) (h1 : Has P w K mg base k "_law_steps" ["_law_program"] (spTI K (okB (d + 1)) lens)) (h2 : Has P w K mg base k "step_count" ["program"] (spTI K (okB (d + 1)) lens)) (h3 : Has P w K mg base k "_law_path" ["_law_urn_here", "_law_program"] (spPath K (d + 1)))
    (h4 : Has P w K mg base k "_law_number" ["_law_program", "_law_path_here"] (spNumber K (d + 1))) (h5 : Has P w K mg base k "locate" ["program", "step"] (spLoc K d)) (h6 : Has P w K mg base k "_law_item_at" ["_law_program", "_law_path_here"] (spItemAt K (d + 1))) (h7 : Has P w K mg base k "_law_take" ["_law_urn_here", "_law_below"] spTake) :
    Has P w K mg base (k + 1) "_law_right" ["_law_urn_here", "_law_program"] (spRight K d) := by
  obtain ⟨_, _, cSteps⟩ := h1
  obtain ⟨_, _, cStep_count⟩ := h2
  obtain ⟨_, _, cPath⟩ := h3
  obtain ⟨_, _, cNumber⟩ := h4
  obtain ⟨_, _, cLocate⟩ := h5
  obtain ⟨_, _, cItem_at⟩ := h6
  obtain ⟨_, _, cTake⟩ := h7
  refine Has.by F scRight (fun vs H Q E h => ?_) (fun f cdv A out s H vs Q E hg hr h => ?_)
  · obtain ⟨_, _, _, rfl, _⟩ := h
    rfl
  obtain ⟨u, v, b, rfl, hU, hB, ok, sho, q⟩ := h
  refine ⟨_, (pss_cons (ps_set (i := 2) scRight.nd rfl (.inl rfl) (pe_cal cSteps hg hr (by rfl) (pa_cons (pv 1) pa_nil)))
  (pss_cons (ps_if (pt_cmpR op_ne (pe_callB (call_reprD hg hr) (by rfl) M.repr_ (by decide +kernel) (pa_cons (pe_cal cStep_count hg hr (by rfl) (pa_cons (pv 1) pa_nil)) pa_nil)) (pe_callB (call_reprD hg hr) (by rfl) M.repr_ (by decide +kernel) (pa_cons (pv 2) pa_nil)) (nomark _))
    (pss_one (ps_ret pe_bl))
    pss_nil)
  (pss_cons (ps_for PassesOwn.never rfl (pi_range1 (by rfl) M.range_ (pa_cons (pe_op op_mul pe_int (pe_callTy call_int1 (by rfl) M.int_ (by decide +kernel) (pa_cons (pe_cmpR op_gt (pv 2) pe_int (nomark _)) pa_nil))) pa_nil)) (pg_name (i := 3) scRight.nd rfl (.inl rfl))
    (pss_cons (ps_set (i := 4) scRight.nd rfl (.inl rfl) (pe_cal cPath hg hr (by rfl) (pa_cons (pv 0) (pa_cons (pv 1) pa_nil))))
  (pss_cons (ps_set (i := 5) scRight.nd rfl (.inl rfl) (pe_cal cNumber hg hr (by rfl) (pa_cons (pv 1) (pa_cons (pv 4) pa_nil))))
  (pss_cons (ps_if (pt_cmpR op_ne (pe_callB (call_reprD hg hr) (by rfl) M.repr_ (by decide +kernel) (pa_cons (pe_cal cLocate hg hr (by rfl) (pa_cons (pv 1) (pa_cons (pv 5) pa_nil))) pa_nil)) (pe_callB (call_reprD hg hr) (by rfl) M.repr_ (by decide +kernel) (pa_cons (pe_tup (pa_cons (pv 4) (pa_cons (pe_cal cItem_at hg hr (by rfl) (pa_cons (pv 1) (pa_cons (pv 4) pa_nil))) pa_nil))) pa_nil)) (nomark _))
    (pss_one (ps_ret pe_bl))
    pss_nil)
  (pss_one (ps_for PassesOwn.never rfl (pi_tup (pe_tup (pa_cons pe_int (pa_cons (pe_op op_sub (pv 2) pe_int) (pa_cons (pe_callB (call_max2 rfl) (by rfl) M.max_ (by decide +kernel) (pa_cons pe_int (pa_cons (pe_op op_sub (pv 5) pe_int) pa_nil))) (pa_cons (pe_callB (call_min2 rfl) (by rfl) M.min_ (by decide +kernel) (pa_cons (pe_op op_sub (pv 2) pe_int) (pa_cons (pe_op op_add (pv 5) pe_int) pa_nil))) (pa_cons (pe_cal cTake hg hr (by rfl) (pa_cons (pv 0) (pa_cons (pv 2) pa_nil))) pa_nil))))))) (pg_name (i := 6) scRight.nd rfl (.inl rfl))
    (pss_cons (ps_set (i := 7) scRight.nd rfl (.inl rfl) (pe_cal cLocate hg hr (by rfl) (pa_cons (pv 1) (pa_cons (pv 6) pa_nil))))
  (pss_one (ps_if (PW.pt (pw_or (pt_cmpR op_ne (pe_cal cNumber hg hr (by rfl) (pa_cons (pv 1) (pa_cons (pe_ix ix_tup (pv 7) pe_int (fun _ _ => rfl)) pa_nil))) (pv 6) (nomark _)) (pw_or1 (pt_cmpR (op_neD hr.units) (pe_ix ix_tup (pv 7) pe_int (fun _ _ => rfl)) (pe_cal cItem_at hg hr (by rfl) (pa_cons (pv 1) (pa_cons (pe_ix ix_tup (pv 7) pe_int (fun _ _ => rfl)) pa_nil))) (nomark _)))))
    (pss_one (ps_ret pe_bl))
    pss_nil)))))))))
  (pss_one (ps_ret pe_bl))))), ?_⟩
  obtain ⟨t0, t1⟩ := lens_900 ok hd
  have lf := leaf_int (i := lens b) (log_of (k := 1000) (by omega) (by decide) (by decide))
  refine ⟨_, rfl, v, b, rfl, hB, ok, fun H1 s1 => ?_⟩
  refine ⟨_, rfl, v, b, rfl, hB.kt (Kt.same s1), ok, fun H2 s2 => ?_⟩
  refine ⟨_, _, rfl, .int _, lf.1, lf.2.1, by rw [lf.2.2.1]; decide, Nat.le_trans lf.2.2.2 (by decide), _, rfl, _, _, rfl, .int _, lf.1, lf.2.1, by rw [lf.2.2.1]; decide, Nat.le_trans lf.2.2.2 (by decide), rfl, _, rfl, iteNS rfl ?_⟩
  have s12 := s1.trans s2
  -- eight turns, if there are steps
  refine ⟨_, rfl, _, _, rfl, rfl, .inr ⟨_, rfl, 8, _, rfl, rfl, .inl ⟨by decide, by decide⟩, ?_⟩⟩
  obtain ⟨m, hm, hm8, hpos⟩ : ∃ m : Nat, 8 * (if decide (0 < lens b) = true then 1 else 0) = (m : Int) ∧ m ≤ 8 ∧ (0 < m → 0 < lens b) := by
    by_cases g : 0 < lens b
    · exact ⟨8, by rw [decide_eq_true g]; rfl, by decide, fun _ => g⟩
    · exact ⟨0, by rw [decide_eq_false g]; rfl, by decide, fun z => absurd z (by decide)⟩
  refine ⟨(m : Int), ?_, by omega, by omega, ?_⟩
  · show [V.int (8 * _)] = _
    rw [hm]
  rw [show ((m : Int)).toNat = m from rfl]
  refine for_range (lo := 0) (n := m) (fun i σ H' => ∃ y3 y4 y5 y6 y7, σ = [some (.ref u), some v, some (.int (lens b)), y3, y4, y5, y6, y7] ∧ Urn H' u ∧ But u H H') ⟨_, _, _, _, _, rfl, hU.same s12, But.same s12⟩ ?_ ?_
  · rintro i σ H3 hi ⟨y3, y4, y5, y6, y7, rfl, u3, b3⟩
    have lp := hpos (by omega)
    have hB3 := hB.kt (hU.kt b3)
    refine ⟨_, rfl, _, rfl, u, v, b, rfl, u3, hB3, ok, lp, fun ps z as st pa H4 pt lps sqp u4 b4 => ?_⟩
    have hB4 := hB3.kt (u3.kt b4)
    obtain ⟨g0, g1, _⟩ := pt.step ok.1 (Int.le_refl 0) (by rw [Tr.len]; decide)
    have shz : Short z as := pt.good sho
    refine ⟨_, rfl, _, rfl, v, pa, b, ps, _, st, rfl, hB4, ok, sqp, pt, fun H5 s5 => ?_⟩
    have hB5 := hB4.kt (Kt.same s5)
    have sqp5 := (Kt.same s5).sq sqp
    -- located at this very path
    refine ⟨_, rfl, _, rfl, v, b, st, rfl, hB5, ok, g0, g1, fun ps2 z2 as2 p pa2 v2 H6 s6 hp sqp2 pt2 hT2 lps2 => ?_⟩
    obtain ⟨e1, e2⟩ := pt.unique ok.1 rfl rfl pt2
    subst e1
    cases e2
    have sm := pt.small ok.1 ok.2
    obtain ⟨w1, w2, w3, w4⟩ := pair_show sm lps2 shz
    have dp2 : Dp K H6 (.ref p) (.tuple [.tuple (ps2.map .int), Tr.datT (.op z as)]) := .tup (SqT.of hp) (.cons (.tup sqp2 (dp_ints ps2)) (.cons (Tr.dp _ _ hT2) .nil))
    refine ⟨_, _, rfl, dp2, w1, w2, w3, w4, _, rfl, _, rfl, _, rfl, v, pa, b, ps2, _, 0, st, rfl, hB5.kt (Kt.same s6), ok, (Kt.same s6).sq sqp5, pt, fun v7 H7 s7 hT7 => ?_⟩
    refine ⟨(by show 2 ≤ sizeLine; decide), fun p8 np8 => ?_⟩
    have s8 := same_new (o := .tup [V.ref pa, v7]) np8
    have s58 := (s6.trans s7).trans s8
    refine ⟨_, _, rfl, .tup (SqT.of upd_same) (.cons (.tup ((Kt.same s58).sq sqp5) (dp_ints ps2)) (.cons (Tr.dp _ _ (TrAt.kt (Kt.same s8) _ _ hT7)) .nil)), w1, w2, w3, w4, rfl, _, rfl, iteNS rfl ?_⟩
    have hB8 := hB5.kt (Kt.same s58)
    have u8 := (u4.same s5).same s58
    have b8 : But u H _ := (b3.trans b4).trans (But.same (s5.trans s58))
    -- the neighbours
    refine ⟨_, rfl, _, _, rfl, rfl, _, rfl, _, _, rfl, rfl, 0, _, rfl, _, rfl, _, _, rfl, rfl, _, rfl, _, _, rfl, rfl, _, _, rfl, _, rfl, _, rfl, u, lens b, rfl, u8, lp, ?_, fun dd H9 d0 d1 u9 b9 => ?_⟩
    · have : wide = 2 ^ 1000 := rfl
      rw [this]
      omega
    refine ⟨(by show 5 ≤ sizeLine; decide), fun t10 nt10 => ?_⟩
    obtain ⟨nears, hnears, nin⟩ : ∃ nears : List Int, [V.int 0, V.int (lens b - 1), V.int (if st - 1 > 0 then st - 1 else 0), V.int (if st + 1 < lens b - 1 then st + 1 else lens b - 1), V.int dd] = nears.map V.int ∧ ∀ m ∈ nears, 0 ≤ m ∧ m < lens b := by
      refine ⟨[0, lens b - 1, (if st - 1 > 0 then st - 1 else 0), (if st + 1 < lens b - 1 then st + 1 else lens b - 1), dd], rfl, fun m k => ?_⟩
      simp only [List.mem_cons, List.not_mem_nil, or_false] at k
      rcases k with rfl | rfl | rfl | rfl | rfl
      · omega
      · omega
      · split <;> omega
      · split <;> omega
      · omega
    have b910 : But u H _ := (b8.trans b9).trans (But.new (q := t10) (o := .tup (nears.map V.int)) nt10)
    have hB10 := hB8.kt ((u8.kt b9).trans (Kt.same (same_new (o := .tup (nears.map V.int)) nt10)))
    have u10 := u9.same (same_new (o := .tup (nears.map V.int)) nt10)
    have h10 : (upd H9 t10 (.tup (nears.map V.int))) t10 = some (.tup (nears.map V.int)) := upd_same
    rw [← hnears] at b910 hB10 u10 h10
    refine ⟨t10, rfl, ⟨_, SqT.of upd_same⟩, ?_⟩
    refine for_tup (xs := nears.map V.int) (fun jj σ H' => ∃ y6 y7, σ = [some (.ref u), some v, some (.int (lens b)), some (.int (0 + (i : Nat))), some (.ref pa), some (.int st), y6, y7] ∧ Same (upd H9 t10 (.tup [V.int 0, V.int (lens b - 1), V.int (if st - 1 > 0 then st - 1 else 0), V.int (if st + 1 < lens b - 1 then st + 1 else lens b - 1), V.int dd])) H') ⟨_, _, rfl, Same.refl _⟩ (fun jj σ H' _ h => ?_) ?_ ?_
    · obtain ⟨_, _, _, h⟩ := h
      rw [← hnears]
      exact (Kt.same h).sq (SqT.of h10)
    · rintro jj x σ H11 hx ⟨y6, y7, rfl, s11⟩
      rw [List.getElem?_map] at hx
      obtain ⟨nr, hnr, rfl⟩ := Option.map_eq_some_iff.mp hx
      obtain ⟨n0, n1⟩ := nin nr (List.mem_of_getElem? hnr)
      have hB11 := hB10.kt (Kt.same s11)
      refine ⟨_, rfl, _, rfl, v, b, nr, rfl, hB11, ok, n0, n1, fun ps3 z3 as3 p3 pa3 v3 H12 s12' hp3 sqp3 pt3 hT3 lps3 => ?_⟩
      have hB12 := hB11.kt (Kt.same s12')
      refine ⟨_, rfl, _, rfl, p3, _, 0, .ref pa3, rfl, rfl, SqT.of hp3, rfl, v, pa3, b, ps3, _, nr, rfl, hB12, ok, sqp3, pt3, fun H13 s13 => ?_⟩
      refine ⟨_, rfl, rfl, _, rfl, ?_⟩
      rw [decide_eq_true rfl]
      refine iteF ?_
      have hp4 := s13 _ _ hp3
      refine ⟨_, rfl, p3, _, 1, v3, rfl, rfl, SqT.of hp4, rfl, _, rfl, _, rfl, p3, _, 0, .ref pa3, rfl, rfl, SqT.of hp4, rfl, v, pa3, b, ps3, _, 0, nr, rfl, hB12.kt (Kt.same s13), ok, (Kt.same s13).sq sqp3, pt3, fun v14 H14 s14 hT14 => ?_⟩
      have shz3 : Short z3 as3 := pt3.good sho
      have er : PyData.eqv (Tr.datT (.op z3 as3)) (Tr.datT (.op z3 as3)) = true := SeqAt.eqv_refl _ (SeqAt.canLay_of_shaped (dat_shaped shz3))
      refine ⟨_, _, Tr.dp _ _ (TrAt.kt (Kt.same (s13.trans s14)) _ _ hT3), Tr.dp _ _ hT14, dat_shaped shz3, dat_shaped shz3, _, rfl, ?_⟩
      rw [er]
      exact iteF ⟨_, _, rfl, ((s11.trans s12').trans s13).trans s14⟩
    · rintro σ H11 ⟨y6, y7, rfl, s11⟩
      exact ⟨_, _, _, _, _, rfl, u10.same s11, b910.trans (But.same s11)⟩
  · rintro σ H3 ⟨y3, y4, y5, y6, y7, rfl, u3, b3⟩
    exact q H3 u3 b3
end
end K08
set_option Elab.async false
set_option linter.all false
set_option maxRecDepth 100000
namespace K08
open PySem PySem.Spec PyProof.Rows L2 Lj
section
variable {P : Program} {w : World} {K : PySem.W.Frag} {mg : Str → Option Value} {base : Heap}
def W5 : List Str := ["set", "copy", "add", "scale", "swap"]
theorem W5_in : ∀ x ∈ W5, x ∈ W7 := by
  have z : (W5.all fun x => W7.contains x) = true := by decide
  intro x m
  exact List.contains_iff_mem.mp (List.all_eq_true.mp z x m)
theorem good_short {p n : Int} {z : Str} {as : List Int} (h : GoodOp p n z as) (hp : p ≤ 10007) (hn : n ≤ 8) : Short z as := by
  have big : (20000 : Nat) < 2 ^ 1000 := by decide +kernel
  refine ⟨h.w7, ?_, fun a m => ?_⟩
  · rcases h with ⟨_, _, _, rfl, _⟩ | ⟨_, _, rfl, _⟩ | ⟨_, _, _, rfl, _⟩ | ⟨_, _, _, _, rfl, _⟩ <;> simp
  · rcases h with ⟨_, x, c, rfl, h⟩ | ⟨_, x, rfl, h⟩ | ⟨_, x, y, rfl, h⟩ | ⟨_, x, y, c, rfl, h⟩ <;> simp only [List.mem_cons, List.not_mem_nil, or_false] at m
    · rcases m with rfl | rfl <;> omega
    · subst m
      omega
    · rcases m with rfl | rfl <;> omega
    · rcases m with rfl | rfl | rfl <;> omega
mutual
theorem Tr.allG_imp {G G' : Str → List Int → Prop} (h : ∀ z as, G z as → G' z as) : ∀ t : Tr, t.allG G → t.allG G'
  | .op z as, g => by
    rw [Tr.allG] at g ⊢
    exact h z as g
  | .loop k b, g => by
    rw [Tr.allG] at g ⊢
    exact allGs_imp h b g
theorem allGs_imp {G G' : Str → List Int → Prop} (h : ∀ z as, G z as → G' z as) : ∀ b : List Tr, allGs G b → allGs G' b
  | [], _ => by rw [allGs]; trivial
  | t :: r, g => by
    rw [allGs] at g ⊢
    exact ⟨Tr.allG_imp h t g.1, allGs_imp h r g.2⟩
end
theorem allGs_take {G : Str → List Int → Prop} : ∀ {b : List Tr} (i : Nat), allGs G b → allGs G (b.take i)
  | _, 0, _ => by rw [List.take_zero, allGs]; trivial
  | [], i + 1, h => h
  | t :: r, i + 1, h => by
    rw [allGs] at h
    rw [List.take_succ_cons, allGs]
    exact ⟨h.1, allGs_take i h.2⟩
theorem allGs_snoc {G : Str → List Int → Prop} {t : Tr} (g : t.allG G) : ∀ {b : List Tr}, allGs G b → allGs G (b ++ [t])
  | [], _ => by
    show allGs G [t]
    rw [allGs, allGs]
    exact ⟨g, trivial⟩
  | a :: r, h => by
    rw [allGs] at h
    show allGs G (a :: (r ++ [t]))
    rw [allGs]
    exact ⟨h.1, allGs_snoc g h.2⟩
def spLaw (K : PySem.W.Frag) : Sp := fun vs H Q _ => ∃ (a : Addr) (ns : List Int), vs = [.ref a] ∧ SqL K H a (ns.map V.int) ∧ ns.length ≤ 63 ∧ ∀ H', Q (.bl true) H'
theorem ok_law (M : Bl mg) (F : At K mg "law" sLaw ["_law_script"]) {k : Nat}
    (h1 : Has P w K mg base k "_law_urn" ["_law_script", "_law_k"] (spUrn K)) (h2 : Has P w K mg base k "_law_take" ["_law_urn_here", "_law_below"] spTake) (h3 : Has P w K mg base k "_law_prime" ["_law_urn_here"] spPrimeU)
    (h5 : Has P w K mg base k "_law_body" ["_law_urn_here", "_law_p", "_law_n", "_law_words", "_law_length", "_law_deep", "_law_rounds"] (spBody K 5)) (h6 : Has P w K mg base k "_law_right" ["_law_urn_here", "_law_program"] (spRight K 4)) :
    Has P w K mg base (k + 1) "law" ["_law_script"] (spLaw K) := by
  obtain ⟨_, _, cUrn⟩ := h1
  obtain ⟨_, _, cTake⟩ := h2
  obtain ⟨_, _, cPrime⟩ := h3
  obtain ⟨_, _, cBody⟩ := h5
  obtain ⟨_, _, cRight⟩ := h6
  refine Has.by F scLaw (fun vs H Q E h => ?_) (fun f cdv A out s H vs Q E hg hr h => ?_)
  · obtain ⟨a, ns, rfl, _⟩ := h
    rfl
  obtain ⟨a, ns, rfl, hS, hl, q⟩ := h
  refine ⟨_, (pss_cons (ps_for PassesOwn.never rfl (pi_range1 (by rfl) M.range_ (pa_cons (pe_callB (call_max2 rfl) (by rfl) M.max_ (by decide +kernel) (pa_cons pe_int (pa_cons (pe_callB (call_min2 rfl) (by rfl) M.min_ (by decide +kernel) (pa_cons pe_int (pa_cons (pe_callB call_len_seq (by rfl) M.len_ (by decide +kernel) (pa_cons (pv 0) pa_nil)) pa_nil))) pa_nil))) pa_nil)) (pg_name (i := 1) scLaw.nd rfl (.inl rfl))
    (pss_cons (ps_set (i := 2) scLaw.nd rfl (.inr rfl) (pe_cal cUrn hg hr (by rfl) (pa_cons (pv 0) (pa_cons (pv 1) pa_nil))))
  (pss_cons (ps_par (i := 3) (j := 4) (by rfl) scLaw.nd rfl rfl (by decide) rfl rfl (pa_cons (pe_cal cPrime hg hr (by rfl) (pa_cons (pv 2) pa_nil)) (pa_cons (pe_op op_add pe_int (pe_cal cTake hg hr (by rfl) (pa_cons (pv 2) (pa_cons pe_int pa_nil)))) pa_nil)) (by rfl))
  (pss_cons (ps_set (i := 6) scLaw.nd rfl (.inl rfl) (pe_op op_cat (pe_lst (pa_cons pe_int (pa_cons pe_int (pa_cons pe_int (pa_cons (pe_op op_pow pe_int pe_int) (pa_cons (pe_op op_sub (pe_op op_pow pe_int pe_int) pe_int) pa_nil)))))) (pe_lc (own := [("_law_turn", 5)]) (g := gName 5) (by rfl) scLaw.nd (pi_range1 (by rfl) M.range_ (pa_cons pe_int pa_nil)) (blkOk_by (own := [("_law_turn", 5)]) (N := ["_law_script", "_law_k", "_law_urn_here", "_law_p", "_law_n", "_law_turn", "_law_rounds", "_law_words", "_law_most", "_law_program"]) (sc := defScope sLaw) (by decide +kernel)) (fun _ _ _ _ _ => (pg_name (i := 5) scLaw.nd rfl (.inl rfl))) (fun _ _ _ _ _ => pts_nil) (fun _ _ _ _ _ => (pe_op op_add pe_int (pe_cal cTake hg hr (by rfl) (pa_cons (pv 2) (pa_cons (pe_op op_pow pe_int pe_int) pa_nil))))))))
  (pss_one (ps_for PassesOwn.never rfl (pi_range1 (by rfl) M.range_ (pa_cons pe_int pa_nil)) (pg_name (i := 5) scLaw.nd rfl (.inl rfl))
    (pss_cons (ps_par (i := 7) (j := 8) (by rfl) scLaw.nd rfl rfl (by decide) rfl rfl (pa_cons (pe_lst (pa_cons pe_str (pa_cons pe_str (pa_cons pe_str (pa_cons pe_str (pa_cons pe_str pa_nil)))))) (pa_cons (pe_op op_sub pe_int (pe_op op_mul pe_int (pe_callTy call_int1 (by rfl) M.int_ (by decide +kernel) (pa_cons (pe_cmpR op_eq (pv 5) pe_int (nomark _)) pa_nil)))) pa_nil)) (by rfl))
  (pss_cons (ps_set (i := 9) scLaw.nd rfl (.inl rfl) (pe_cal cBody hg hr (by rfl) (pa_cons (pv 2) (pa_cons (pv 3) (pa_cons (pv 4) (pa_cons (pv 7) (pa_cons (pv 8) (pa_cons (pe_op op_sub pe_int (pe_callTy call_int1 (by rfl) M.int_ (by decide +kernel) (pa_cons (pe_cmpR op_eq (pv 5) pe_int (nomark _)) pa_nil))) (pa_cons (pv 6) pa_nil)))))))))
  (Evl.pss_cut (ps_set (i := 9) scLaw.nd rfl (.inl rfl) (pe_ifExp (pt_cmpR op_eq (pv 5) pe_int (nomark _)) (pe_op op_catA (pv 9) (pe_tup (pa_cons (pe_tup (pa_cons pe_str (pa_cons (pe_op op_pow pe_int pe_int) (pa_cons (pe_slice sl_tupA (pv 9) po_none (po_some pe_int)) pa_nil)))) pa_nil))) (pv 9)))
  (pss_one (ps_if (pt_not (pt_val (pe_cal cRight hg hr (by rfl) (pa_cons (pv 2) (pa_cons (pv 9) pa_nil)))))
    (pss_one (ps_ret pe_bl))
    pss_nil)))))))))))
  (pss_one (ps_ret pe_bl))), ?_⟩
  have hlen : (ns.map V.int).length = ns.length := List.length_map _
  refine ⟨_, rfl, a, _, rfl, .inl hS, 3, _, rfl, 1, _, rfl, ?_⟩
  rw [hlen]
  obtain ⟨m, hm, hm3⟩ : ∃ m : Nat, (if (if (ns.length : Int) < 3 then (ns.length : Int) else 3) > 1 then (if (ns.length : Int) < 3 then (ns.length : Int) else 3) else 1) = (m : Int) ∧ m ≤ 3 := by
    refine ⟨(if (if (ns.length : Int) < 3 then (ns.length : Int) else 3) > 1 then (if (ns.length : Int) < 3 then (ns.length : Int) else 3) else 1).toNat, ?_, ?_⟩
    · split <;> split <;> omega
    · split <;> split <;> omega
  refine ⟨_, rfl, ?_, ?_, ?_⟩
  · rw [hm]; omega
  · rw [hm]; omega
  rw [hm]
  refine for_range (lo := 0) (n := m) (fun i σ H' => ∃ y1 y2 y3 y4 y5 y6 y7 y8 y9, σ = [some (.ref a), y1, y2, y3, y4, y5, y6, y7, y8, y9] ∧ Same H H') ⟨_, _, _, _, _, _, _, _, _, rfl, Same.refl _⟩ ?_ ?_
  · rintro i σ H1 hi ⟨y1, y2, y3, y4, y5, y6, y7, y8, y9, rfl, sm⟩
    refine ⟨_, rfl, _, rfl, a, ns, _, rfl, sm.seq hS, by omega, by omega, fun H2 u s2 nu hU => ?_⟩
    have nHu : H u = none := sm.free nu
    have sA : Same H H2 := sm.trans s2
    refine ⟨_, rfl, u, rfl, hU, fun p H3 hp u3 b3 => ?_⟩
    obtain ⟨p0, p1⟩ := prs_bd hp
    refine ⟨_, rfl, u, 8, rfl, u3, by decide, wide_big (by decide) (by decide), fun n0 H4 n00 n01 u4 b4 => ?_⟩
    refine ⟨1, n0, rfl, rfl, _, _, rfl, ?_⟩
    have sB : Same H H4 := same_but (same_but sA nHu b3) nHu b4
    -- rounds
    refine ⟨10, 18, rfl, rfl, ⟨by decide, by decide, by decide⟩, 10, 18, rfl, rfl, ⟨by decide, by decide, by decide⟩, _, _, rfl, rfl, (by show 5 ≤ sizeLine; decide), fun l5 nl5 => ?_⟩
    have s5 := same_new (o := .lst (([0, 1, 2, 10 ^ 18, 10 ^ 18 - 1] : List Int).map V.int)) nl5
    have n5u : l5 ≠ u := u4.ne nl5
    refine ⟨3, rfl, by decide, by decide, fun D nD => ?_⟩
    have nDu : D ≠ u := (u4.same s5).ne nD
    have n5D : l5 ≠ D := ne_of_none (upd_same (H := H4) (a := l5) (o := .lst (([0, 1, 2, 10 ^ 18, 10 ^ 18 - 1] : List Int).map V.int))) nD
    have nHD : H D = none := (sB.trans s5).free nD
    have s6 := same_new (o := .lst []) nD
    refine lc_range (lo := 0) (n := 3) (fun j H' => ∃ ms : List Int, H' D = some (.lst (ms.map V.int)) ∧ ms.length = j ∧ (∀ m ∈ ms, 0 ≤ m ∧ m ≤ 10 ^ 18) ∧ Urn H' u ∧ H' l5 = some (.lst (([0, 1, 2, 10 ^ 18, 10 ^ 18 - 1] : List Int).map V.int)) ∧ Same H H') ⟨[], upd_same, rfl, (fun m k => absurd k List.not_mem_nil), (u4.same s5).same s6, s6 _ _ upd_same, (sB.trans s5).trans s6⟩ ?_ ?_
    · rintro j H20 hj ⟨ms, e1, e2, e3, e4, e5, e6⟩
      refine ⟨rfl, ?_⟩
      refine ⟨_, rfl, 10, 18, rfl, rfl, ⟨by decide, by decide, by decide⟩, u, _, rfl, e4, by decide, wide_big (by decide) (by decide), fun d H21 d0 d1 u21 b21 => ?_⟩
      have d1 : d < 10 ^ 18 := d1
      refine ⟨1, d, rfl, rfl, _, b21 _ _ nDu e1, ?_, ms ++ [1 + d], ?_, by rw [List.length_append, e2]; rfl, fun m k => ?_, u21.but (q := D) But.upd nDu.symm, ?_, fun x o ho => ?_⟩
      · rw [List.length_map, e2]
        exact small1000 (by omega)
      · rw [upd_same, List.map_append]
        rfl
      · rcases List.mem_append.mp k with k | k
        · exact e3 m k
        · rw [List.mem_singleton.mp k]
          omega
      · rw [upd_ne n5D]
        exact b21 _ _ n5u e5
      · rw [upd_ne (ne_of_none ho nHD)]
        exact b21 _ _ (ne_of_none ho nHu) (e6 _ _ ho)
    rintro H20 ⟨ms, e1, e2, e3, e4, e5, e6⟩
    refine ⟨l5, D, _, _, rfl, rfl, e5, e1, ?_, fun rs nrs => ?_⟩
    · rw [List.length_map, List.length_map, e2]
      exact small (by show 5 + 3 ≤ 1000; decide)
    rw [show ([0, 1, 2, 10 ^ 18, 10 ^ 18 - 1] : List Int).map V.int ++ ms.map V.int = (([0, 1, 2, 10 ^ 18, 10 ^ 18 - 1] : List Int) ++ ms).map V.int from (List.map_append ..).symm]
    obtain ⟨rl, hrl, rle, rne, rin⟩ : ∃ rl : List Int, rl = ([0, 1, 2, 10 ^ 18, 10 ^ 18 - 1] : List Int) ++ ms ∧ rl.length ≤ 1000 ∧ rl ≠ [] ∧ ∀ k ∈ rl, 0 ≤ k ∧ k ≤ 10 ^ 18 := by
      refine ⟨_, rfl, by rw [List.length_append, e2]; decide, (by intro z; cases z), fun k hk => ?_⟩
      rcases List.mem_append.mp hk with hk | hk
      · simp only [List.mem_cons, List.not_mem_nil, or_false] at hk
        omega
      · exact e3 k hk
    rw [← hrl]
    have sR := same_new (o := .lst (rl.map V.int)) nrs
    have nru : rs ≠ u := e4.ne nrs
    refine ⟨3, rfl, by decide, by decide, ?_⟩
    refine for_range (lo := 0) (n := 3) (fun j σ H' => ∃ y5 y7 y8 y9, σ = [some (.ref a), some (.int (0 + (i : Nat))), some (.ref u), some (.int p), some (.int (1 + n0)), y5, some (.ref rs), y7, y8, y9] ∧ Same H H' ∧ Urn H' u ∧ H' rs = some (.lst (rl.map V.int))) ⟨_, _, _, _, rfl, e6.trans sR, e4.same sR, upd_same⟩ ?_ ?_
    · rintro j σ H7 hj ⟨y5, y7, y8, y9, rfl, s7, u7, h7⟩
      obtain ⟨bo, hbo⟩ : ∃ bo, bo = decide (V.int (0 + (j : Nat)) = V.int 0) := ⟨_, rfl⟩
      obtain ⟨l, e, el, ee, l8, e4', eb⟩ : ∃ l e : Nat, 8 - 2 * (if bo = true then 1 else 0) = (l : Int) ∧ 4 - (if bo = true then 1 else 0) = (e : Int) ∧ l ≤ 8 ∧ e ≤ 4 ∧ (bo = true → e = 3) := by
        cases bo
        · exact ⟨8, 4, rfl, rfl, by decide, by decide, fun z => by cases z⟩
        · exact ⟨6, 3, rfl, rfl, by decide, by decide, fun _ => rfl⟩
      -- words, most
      refine ⟨(by show 5 ≤ sizeLine; decide), fun ws nws => ?_⟩
      have sW := same_new (o := .lst (W5.map V.str)) nws
      refine ⟨_, rfl, rfl, .inr ⟨_, rfl, 2, _, rfl, rfl, .inl ⟨by decide, by decide⟩, 8, _, rfl, rfl, V.ref ws, V.int (l : Int), ?_, ?_⟩⟩
      · show [V.ref ws, V.int (8 - 2 * (if decide (V.int (0 + (j : Nat)) = V.int 0) = true then 1 else 0))] = _
        rw [← hbo, el]
      -- program
      refine ⟨_, rfl, _, rfl, _, rfl, _, rfl, _, rfl, _, rfl, rfl, .inr ⟨_, rfl, 4, _, rfl, rfl, _, rfl, ?_⟩⟩
      refine ⟨u, ws, rs, p, 1 + n0, W5, rl, l, e, ?_, u7.same sW, p0, p1, by omega, by omega, u7.ne nws, SqL.of upd_same, (by intro z; cases z), (by decide), W5_in, nru, SqL.of (sW _ _ h7), rne, rle, by omega, by omega, fun b v H8 bl mad hB u8 b8 => ?_⟩
      · show [V.ref u, V.int p, V.int (1 + n0), V.ref ws, V.int (l : Int), V.int (4 - (if decide (V.int (0 + (j : Nat)) = V.int 0) = true then 1 else 0)), V.ref rs] = _
        rw [← hbo, ee]
      have hG : ∀ z as, (GoodOp p (1 + n0) z as ∧ (z ∈ W5 ∨ z = "set")) → z ∈ W7 := fun z as h => h.1.w7
      have wfe := mades_wf hG rin b l e (by omega) mad
      have sho : allGs Short b := allGs_imp (fun z as h => good_short h.1 p1 (by omega)) b (mades_allG b l e mad)
      have s8 : Same H H8 := same_but (s7.trans sW) nHu b8
      have h8 := b8 _ _ nru (sW _ _ h7)
      refine ⟨fun σ H' => ∃ v2 b2, σ = [some (.ref a), some (.int (0 + (i : Nat))), some (.ref u), some (.int p), some (.int (1 + n0)), some (.int (0 + (j : Nat))), some (.ref rs), some (.ref ws), some (.int (l : Int)), some v2] ∧ Same H8 H' ∧ BodyAt K H' b2 v2 ∧ okB 5 b2 ∧ allGs Short b2, ?_, ?_⟩
      · refine ⟨_, rfl, rfl, _, rfl, ?_⟩
        rw [← hbo]
        cases bo with
        | false =>
          have w4 : wfs b 4 := by
            have : e = 4 := by
              have ee : (4 : Int) - 0 = e := ee
              omega
            subst this
            exact wfe
          exact iteF ⟨_, rfl, v, b, rfl, Same.refl _, hB, ⟨w4, by omega⟩, sho⟩
        | true =>
          have e3' := eb rfl
          subst e3'
          refine iteT ?_
          obtain ⟨c, us, rfl, sq, r⟩ := hB
          refine ⟨_, rfl, 10, 18, rfl, rfl, ⟨by decide, by decide, by decide⟩, _, rfl, 3, rfl, body_cut (c := b.take 3) sq r (by rw [show (3 : Int) = ((3 : Nat) : Int) from rfl, cut_to]; exact r.take 3) fun v9 H9 s9 hB9 => ?_⟩
          obtain ⟨c9, us9, rfl, sq9, r9⟩ := hB9
          refine ⟨(by show 3 ≤ sizeLine; decide), fun t10 nt10 => ⟨(by show 1 ≤ sizeLine; decide), fun t11 nt11 => ?_⟩⟩
          have s10 := same_new (o := .tup [V.str "loop", V.int (10 ^ 18), V.ref c9]) nt10
          have s11 := same_new (o := .tup [V.ref t10]) nt11
          have s1011 := s10.trans s11
          have sqc := (Kt.same (s9.trans s1011)).sq sq
          have rc := TrsAt.kt (Kt.same (s9.trans s1011)) _ _ r
          have hl : TrAt K (upd (upd H9 t10 (.tup [V.str "loop", V.int (10 ^ 18), V.ref c9])) t11 (.tup [V.ref t10])) (.loop (10 ^ 18) (b.take 3)) (.ref t10) := by
            rw [TrAt]
            exact ⟨t10, c9, us9, rfl, (Kt.same s11).sq (SqT.of upd_same), (Kt.same s1011).sq sq9, TrsAt.kt (Kt.same s1011) _ _ r9⟩
          have okb : okB 5 (b ++ [.loop (10 ^ 18) (b.take 3)]) := ⟨wfs_all fun t m => by
            rcases List.mem_append.mp m with m | m
            · obtain ⟨jx, hjx, ex⟩ := List.mem_iff_getElem.mp m
              exact Tr.wf_up t 3 (wfs_get (i := jx) wfe (by rw [List.getElem?_eq_getElem hjx, ex]))
            · rw [List.mem_singleton.mp m, Tr.wf]
              exact ⟨by decide, by decide, by rw [List.length_take]; omega, wfs_take wfe⟩, by rw [List.length_append]; show b.length + 1 ≤ 1000; omega⟩
          have shb : allGs Short (b ++ [.loop (10 ^ 18) (b.take 3)]) := allGs_snoc (by rw [Tr.allG]; exact allGs_take 3 sho) sho
          have rl2 := r.length
          refine ⟨c, t11, us, [V.ref t10], rfl, rfl, sqc, SqT.of upd_same, ?_, fun ez => ?_, fun _ ez => (by cases ez), fun _ _ p12 np12 => ?_⟩
          · exact small (by show us.length + 1 ≤ 1000; omega)
          · subst ez
            have : b = [] := List.length_eq_zero_iff.mp (by rw [← rl2]; rfl)
            subst this
            exact ⟨_, _, rfl, s9.trans s1011, ⟨t11, _, rfl, SqT.of upd_same, TrsAt.one hl⟩, okb, shb⟩
          · have s12 := same_new (o := .tup (us ++ [V.ref t10])) np12
            exact ⟨_, _, rfl, (s9.trans s1011).trans s12, ⟨p12, _, rfl, SqT.of upd_same, TrsAt.kt (Kt.same s12) _ _ (rc.append (TrsAt.one hl))⟩, okb, shb⟩
      rintro σ' H9 ⟨v2, b2, rfl, s9, hB2, ok5, sho2⟩
      refine ⟨_, rfl, _, rfl, u, v2, b2, rfl, u8.same s9, hB2, ok5, sho2, fun H10 u10 b10 => ?_⟩
      refine ⟨_, rfl, iteF ?_⟩
      exact ⟨_, _, _, _, rfl, same_but (s8.trans s9) nHu b10, u10, b10 _ _ nru (s9 _ _ h8)⟩
    · rintro σ H7 ⟨y5, y7, y8, y9, rfl, s7, _, _⟩
      exact ⟨_, _, _, _, _, _, _, _, _, rfl, s7⟩
  · rintro σ H1 ⟨y1, y2, y3, y4, y5, y6, y7, y8, y9, rfl, sm⟩
    exact q H1
end
theorem all_mk {l : PySem.W.OpenLaw} {w : World} {K : PySem.W.Frag} {h : Heap} {mg : Str → Option Value} {fa f0 f1 f2 f3 f4 f5 f6 f7 f8 f9 f10 f11 f12 f13 f14 f15 f16 : Addr} (X : K.In h) (G : h.Ns mainGlobals mg) (hfa : mg "law" = some (.ref fa))
    {od0 an0 od1 an1 od2 an2 od3 an3 od4 an4 od5 an5 od6 an6 od7 an7 od8 an8 od9 an9 od10 an10 od11 an11 od12 an12 od13 an13 od14 an14 od15 an15 od16 an16 : Option Addr} {sl0 sl1 sl2 sl3 sl4 sl5 sl6 sl7 sl8 sl9 sl10 sl11 sl12 sl13 sl14 sl15 sl16 : Array (Option Value)} {oc0 kV0 dc0 pm0 cd0 ct0 oc1 kV1 dc1 pm1 cd1 ct1 oc2 kV2 dc2 pm2 cd2 ct2 oc3 kV3 dc3 pm3 cd3 ct3 oc4 kV4 dc4 pm4 cd4 ct4 oc5 kV5 dc5 pm5 cd5 ct5 oc6 kV6 dc6 pm6 cd6 ct6 oc7 kV7 dc7 pm7 cd7 ct7 oc8 kV8 dc8 pm8 cd8 ct8 oc9 kV9 dc9 pm9 cd9 ct9 oc10 kV10 dc10 pm10 cd10 ct10 oc11 kV11 dc11 pm11 cd11 ct11 oc12 kV12 dc12 pm12 cd12 ct12 oc13 kV13 dc13 pm13 cd13 ct13 oc14 kV14 dc14 pm14 cd14 ct14 oc15 kV15 dc15 pm15 cd15 ct15 oc16 kV16 dc16 pm16 cd16 ct16 : Value}
    (a0 : PySem.W.nsIn K mainGlobals "is_between" = some (some (.ref f0))) (l0 : K.lookup f0 = some ⟨oc0, od0, .func (PySem.W.fnOf "is_between" "is_between" (defArgs sIs_between) (defBody sIs_between) (defScope sIs_between) .none kV0 dc0 pm0 an0 cd0 ct0), sl0⟩) (c0 : PySem.W.codeIn K cd0 "is_between" = true) (k0 : PySem.W.keepIn K (.ref f0) = true)
    (a1 : PySem.W.nsIn K mainGlobals "step_count" = some (some (.ref f1))) (l1 : K.lookup f1 = some ⟨oc1, od1, .func (PySem.W.fnOf "step_count" "step_count" (defArgs sStep_count) (defBody sStep_count) (defScope sStep_count) .none kV1 dc1 pm1 an1 cd1 ct1), sl1⟩) (c1 : PySem.W.codeIn K cd1 "step_count" = true) (k1 : PySem.W.keepIn K (.ref f1) = true)
    (a2 : PySem.W.nsIn K mainGlobals "length" = some (some (.ref f2))) (l2 : K.lookup f2 = some ⟨oc2, od2, .func (PySem.W.fnOf "length" "length" (defArgs sLength) (defBody sLength) (defScope sLength) .none kV2 dc2 pm2 an2 cd2 ct2), sl2⟩) (c2 : PySem.W.codeIn K cd2 "length" = true) (k2 : PySem.W.keepIn K (.ref f2) = true)
    (a3 : PySem.W.nsIn K mainGlobals "locate" = some (some (.ref f3))) (l3 : K.lookup f3 = some ⟨oc3, od3, .func (PySem.W.fnOf "locate" "locate" (defArgs sLocate) (defBody sLocate) (defScope sLocate) .none kV3 dc3 pm3 an3 cd3 ct3), sl3⟩) (c3 : PySem.W.codeIn K cd3 "locate" = true) (k3 : PySem.W.keepIn K (.ref f3) = true)
    (a4 : PySem.W.nsIn K mainGlobals "place" = some (some (.ref f4))) (l4 : K.lookup f4 = some ⟨oc4, od4, .func (PySem.W.fnOf "place" "place" (defArgs sPlace) (defBody sPlace) (defScope sPlace) .none kV4 dc4 pm4 an4 cd4 ct4), sl4⟩) (c4 : PySem.W.codeIn K cd4 "place" = true) (k4 : PySem.W.keepIn K (.ref f4) = true)
    (a5 : PySem.W.nsIn K mainGlobals "_law_urn" = some (some (.ref f5))) (l5 : K.lookup f5 = some ⟨oc5, od5, .func (PySem.W.fnOf "_law_urn" "_law_urn" (defArgs sUrn) (defBody sUrn) (defScope sUrn) .none kV5 dc5 pm5 an5 cd5 ct5), sl5⟩) (c5 : PySem.W.codeIn K cd5 "_law_urn" = true) (k5 : PySem.W.keepIn K (.ref f5) = true)
    (a6 : PySem.W.nsIn K mainGlobals "_law_take" = some (some (.ref f6))) (l6 : K.lookup f6 = some ⟨oc6, od6, .func (PySem.W.fnOf "_law_take" "_law_take" (defArgs sTake) (defBody sTake) (defScope sTake) .none kV6 dc6 pm6 an6 cd6 ct6), sl6⟩) (c6 : PySem.W.codeIn K cd6 "_law_take" = true) (k6 : PySem.W.keepIn K (.ref f6) = true)
    (a7 : PySem.W.nsIn K mainGlobals "_law_of" = some (some (.ref f7))) (l7 : K.lookup f7 = some ⟨oc7, od7, .func (PySem.W.fnOf "_law_of" "_law_of" (defArgs sOf) (defBody sOf) (defScope sOf) .none kV7 dc7 pm7 an7 cd7 ct7), sl7⟩) (c7 : PySem.W.codeIn K cd7 "_law_of" = true) (k7 : PySem.W.keepIn K (.ref f7) = true)
    (a8 : PySem.W.nsIn K mainGlobals "_law_prime" = some (some (.ref f8))) (l8 : K.lookup f8 = some ⟨oc8, od8, .func (PySem.W.fnOf "_law_prime" "_law_prime" (defArgs sPrime) (defBody sPrime) (defScope sPrime) .none kV8 dc8 pm8 an8 cd8 ct8), sl8⟩) (c8 : PySem.W.codeIn K cd8 "_law_prime" = true) (k8 : PySem.W.keepIn K (.ref f8) = true)
    (a9 : PySem.W.nsIn K mainGlobals "_law_item" = some (some (.ref f9))) (l9 : K.lookup f9 = some ⟨oc9, od9, .func (PySem.W.fnOf "_law_item" "_law_item" (defArgs sItem) (defBody sItem) (defScope sItem) .none kV9 dc9 pm9 an9 cd9 ct9), sl9⟩) (c9 : PySem.W.codeIn K cd9 "_law_item" = true) (k9 : PySem.W.keepIn K (.ref f9) = true)
    (a10 : PySem.W.nsIn K mainGlobals "_law_body" = some (some (.ref f10))) (l10 : K.lookup f10 = some ⟨oc10, od10, .func (PySem.W.fnOf "_law_body" "_law_body" (defArgs sBody) (defBody sBody) (defScope sBody) .none kV10 dc10 pm10 an10 cd10 ct10), sl10⟩) (c10 : PySem.W.codeIn K cd10 "_law_body" = true) (k10 : PySem.W.keepIn K (.ref f10) = true)
    (a11 : PySem.W.nsIn K mainGlobals "_law_steps" = some (some (.ref f11))) (l11 : K.lookup f11 = some ⟨oc11, od11, .func (PySem.W.fnOf "_law_steps" "_law_steps" (defArgs sSteps) (defBody sSteps) (defScope sSteps) .none kV11 dc11 pm11 an11 cd11 ct11), sl11⟩) (c11 : PySem.W.codeIn K cd11 "_law_steps" = true) (k11 : PySem.W.keepIn K (.ref f11) = true)
    (a12 : PySem.W.nsIn K mainGlobals "_law_number" = some (some (.ref f12))) (l12 : K.lookup f12 = some ⟨oc12, od12, .func (PySem.W.fnOf "_law_number" "_law_number" (defArgs sNumber) (defBody sNumber) (defScope sNumber) .none kV12 dc12 pm12 an12 cd12 ct12), sl12⟩) (c12 : PySem.W.codeIn K cd12 "_law_number" = true) (k12 : PySem.W.keepIn K (.ref f12) = true)
    (a13 : PySem.W.nsIn K mainGlobals "_law_path" = some (some (.ref f13))) (l13 : K.lookup f13 = some ⟨oc13, od13, .func (PySem.W.fnOf "_law_path" "_law_path" (defArgs sPath) (defBody sPath) (defScope sPath) .none kV13 dc13 pm13 an13 cd13 ct13), sl13⟩) (c13 : PySem.W.codeIn K cd13 "_law_path" = true) (k13 : PySem.W.keepIn K (.ref f13) = true)
    (a14 : PySem.W.nsIn K mainGlobals "_law_item_at" = some (some (.ref f14))) (l14 : K.lookup f14 = some ⟨oc14, od14, .func (PySem.W.fnOf "_law_item_at" "_law_item_at" (defArgs sItem_at) (defBody sItem_at) (defScope sItem_at) .none kV14 dc14 pm14 an14 cd14 ct14), sl14⟩) (c14 : PySem.W.codeIn K cd14 "_law_item_at" = true) (k14 : PySem.W.keepIn K (.ref f14) = true)
    (a15 : PySem.W.nsIn K mainGlobals "_law_right" = some (some (.ref f15))) (l15 : K.lookup f15 = some ⟨oc15, od15, .func (PySem.W.fnOf "_law_right" "_law_right" (defArgs sRight) (defBody sRight) (defScope sRight) .none kV15 dc15 pm15 an15 cd15 ct15), sl15⟩) (c15 : PySem.W.codeIn K cd15 "_law_right" = true) (k15 : PySem.W.keepIn K (.ref f15) = true)
    (a16 : PySem.W.nsIn K mainGlobals "law" = some (some (.ref f16))) (l16 : K.lookup f16 = some ⟨oc16, od16, .func (PySem.W.fnOf "law" "law" (defArgs sLaw) (defBody sLaw) (defScope sLaw) .none kV16 dc16 pm16 an16 cd16 ct16), sl16⟩) (c16 : PySem.W.codeIn K cd16 "law" = true) (k16 : PySem.W.keepIn K (.ref f16) = true)
    (z0 : PySem.W.nsIn K mainGlobals "len" = some none)
    (z1 : PySem.W.nsIn K mainGlobals "abs" = some none)
    (z2 : PySem.W.nsIn K mainGlobals "int" = some none)
    (z3 : PySem.W.nsIn K mainGlobals "range" = some none)
    (z4 : PySem.W.nsIn K mainGlobals "max" = some none)
    (z5 : PySem.W.nsIn K mainGlobals "min" = some none)
    (z6 : PySem.W.nsIn K mainGlobals "all" = some none)
    (z7 : PySem.W.nsIn K mainGlobals "sum" = some none)
    (z8 : PySem.W.nsIn K mainGlobals "list" = some none)
    (z9 : PySem.W.nsIn K mainGlobals "tuple" = some none)
    (z10 : PySem.W.nsIn K mainGlobals "isinstance" = some none)
    (z11 : PySem.W.nsIn K mainGlobals "bool" = some none)
    (z12 : PySem.W.nsIn K mainGlobals "repr" = some none)
    (z13 : PySem.W.nsIn K mainGlobals "enumerate" = some none)
    (z14 : PySem.W.nsIn K mainGlobals "zip" = some none)
    (z15 : PySem.W.nsIn K mainGlobals "divmod" = some none)
    : ∃ fd : FuncData, (∀ (s : Shared) (v : Value), BindsTo s fd ⟨[v], []⟩ [("_law_script", v)]) ∧ ∀ base : Heap, K.In base → base.Ns mainGlobals mg → FnG l.prog w K mg base 15 fa fd ["_law_script"] (spLaw K) := by
  have FIs_between := fun_mk (st := sIs_between) l0 c0 k0
  have AIs_between : At K mg "is_between" sIs_between ["value", "low", "high"] := ⟨_, _, FIs_between, FIs_between.binds (ps := ["value", "low", "high"]) fun _ _ _ _ _ _ us hl => match us, hl with | [_, _, _], _ => rfl, PySem.W.mg_of X G a0⟩
  have FStep_count := fun_mk (st := sStep_count) l1 c1 k1
  have AStep_count : At K mg "step_count" sStep_count ["program"] := ⟨_, _, FStep_count, FStep_count.binds (ps := ["program"]) fun _ _ _ _ _ _ us hl => match us, hl with | [_], _ => rfl, PySem.W.mg_of X G a1⟩
  have FLength := fun_mk (st := sLength) l2 c2 k2
  have ALength : At K mg "length" sLength ["instruction"] := ⟨_, _, FLength, FLength.binds (ps := ["instruction"]) fun _ _ _ _ _ _ us hl => match us, hl with | [_], _ => rfl, PySem.W.mg_of X G a2⟩
  have FLocate := fun_mk (st := sLocate) l3 c3 k3
  have ALocate : At K mg "locate" sLocate ["program", "step"] := ⟨_, _, FLocate, FLocate.binds (ps := ["program", "step"]) fun _ _ _ _ _ _ us hl => match us, hl with | [_, _], _ => rfl, PySem.W.mg_of X G a3⟩
  have FPlace := fun_mk (st := sPlace) l4 c4 k4
  have APlace : At K mg "place" sPlace ["program", "step"] := ⟨_, _, FPlace, FPlace.binds (ps := ["program", "step"]) fun _ _ _ _ _ _ us hl => match us, hl with | [_, _], _ => rfl, PySem.W.mg_of X G a4⟩
  have FUrn := fun_mk (st := sUrn) l5 c5 k5
  have AUrn : At K mg "_law_urn" sUrn ["_law_script", "_law_k"] := ⟨_, _, FUrn, FUrn.binds (ps := ["_law_script", "_law_k"]) fun _ _ _ _ _ _ us hl => match us, hl with | [_, _], _ => rfl, PySem.W.mg_of X G a5⟩
  have FTake := fun_mk (st := sTake) l6 c6 k6
  have ATake : At K mg "_law_take" sTake ["_law_urn_here", "_law_below"] := ⟨_, _, FTake, FTake.binds (ps := ["_law_urn_here", "_law_below"]) fun _ _ _ _ _ _ us hl => match us, hl with | [_, _], _ => rfl, PySem.W.mg_of X G a6⟩
  have FOf := fun_mk (st := sOf) l7 c7 k7
  have AOf : At K mg "_law_of" sOf ["_law_urn_here", "_law_items"] := ⟨_, _, FOf, FOf.binds (ps := ["_law_urn_here", "_law_items"]) fun _ _ _ _ _ _ us hl => match us, hl with | [_, _], _ => rfl, PySem.W.mg_of X G a7⟩
  have FPrime := fun_mk (st := sPrime) l8 c8 k8
  have APrime : At K mg "_law_prime" sPrime ["_law_urn_here"] := ⟨_, _, FPrime, FPrime.binds (ps := ["_law_urn_here"]) fun _ _ _ _ _ _ us hl => match us, hl with | [_], _ => rfl, PySem.W.mg_of X G a8⟩
  have FItem := fun_mk (st := sItem) l9 c9 k9
  have AItem : At K mg "_law_item" sItem ["_law_urn_here", "_law_p", "_law_n", "_law_words"] := ⟨_, _, FItem, FItem.binds (ps := ["_law_urn_here", "_law_p", "_law_n", "_law_words"]) fun _ _ _ _ _ _ us hl => match us, hl with | [_, _, _, _], _ => rfl, PySem.W.mg_of X G a9⟩
  have FBody := fun_mk (st := sBody) l10 c10 k10
  have ABody : At K mg "_law_body" sBody ["_law_urn_here", "_law_p", "_law_n", "_law_words", "_law_length", "_law_deep", "_law_rounds"] := ⟨_, _, FBody, FBody.binds (ps := ["_law_urn_here", "_law_p", "_law_n", "_law_words", "_law_length", "_law_deep", "_law_rounds"]) fun _ _ _ _ _ _ us hl => match us, hl with | [_, _, _, _, _, _, _], _ => rfl, PySem.W.mg_of X G a10⟩
  have FSteps := fun_mk (st := sSteps) l11 c11 k11
  have ASteps : At K mg "_law_steps" sSteps ["_law_program"] := ⟨_, _, FSteps, FSteps.binds (ps := ["_law_program"]) fun _ _ _ _ _ _ us hl => match us, hl with | [_], _ => rfl, PySem.W.mg_of X G a11⟩
  have FNumber := fun_mk (st := sNumber) l12 c12 k12
  have ANumber : At K mg "_law_number" sNumber ["_law_program", "_law_path_here"] := ⟨_, _, FNumber, FNumber.binds (ps := ["_law_program", "_law_path_here"]) fun _ _ _ _ _ _ us hl => match us, hl with | [_, _], _ => rfl, PySem.W.mg_of X G a12⟩
  have FPath := fun_mk (st := sPath) l13 c13 k13
  have APath : At K mg "_law_path" sPath ["_law_urn_here", "_law_program"] := ⟨_, _, FPath, FPath.binds (ps := ["_law_urn_here", "_law_program"]) fun _ _ _ _ _ _ us hl => match us, hl with | [_, _], _ => rfl, PySem.W.mg_of X G a13⟩
  have FItem_at := fun_mk (st := sItem_at) l14 c14 k14
  have AItem_at : At K mg "_law_item_at" sItem_at ["_law_program", "_law_path_here"] := ⟨_, _, FItem_at, FItem_at.binds (ps := ["_law_program", "_law_path_here"]) fun _ _ _ _ _ _ us hl => match us, hl with | [_, _], _ => rfl, PySem.W.mg_of X G a14⟩
  have FRight := fun_mk (st := sRight) l15 c15 k15
  have ARight : At K mg "_law_right" sRight ["_law_urn_here", "_law_program"] := ⟨_, _, FRight, FRight.binds (ps := ["_law_urn_here", "_law_program"]) fun _ _ _ _ _ _ us hl => match us, hl with | [_, _], _ => rfl, PySem.W.mg_of X G a15⟩
  have FLaw := fun_mk (st := sLaw) l16 c16 k16
  have ALaw : At K mg "law" sLaw ["_law_script"] := ⟨_, _, FLaw, FLaw.binds (ps := ["_law_script"]) fun _ _ _ _ _ _ us hl => match us, hl with | [_], _ => rfl, PySem.W.mg_of X G a16⟩
  have M : Bl mg := ⟨PySem.W.mg_none_of X G z0, PySem.W.mg_none_of X G z1, PySem.W.mg_none_of X G z2, PySem.W.mg_none_of X G z3, PySem.W.mg_none_of X G z4, PySem.W.mg_none_of X G z5, PySem.W.mg_none_of X G z6, PySem.W.mg_none_of X G z7, PySem.W.mg_none_of X G z8, PySem.W.mg_none_of X G z9, PySem.W.mg_none_of X G z10, PySem.W.mg_none_of X G z11, PySem.W.mg_none_of X G z12, PySem.W.mg_none_of X G z13, PySem.W.mg_none_of X G z14, PySem.W.mg_none_of X G z15⟩
  refine ⟨PySem.W.fnOf "law" "law" (defArgs sLaw) (defBody sLaw) (defScope sLaw) .none kV16 dc16 pm16 an16 cd16 ct16, fun s v => .of_eq rfl, fun base _ _ => ?_⟩
  have hT : Has l.prog w K mg base 1 "_law_take" ["_law_urn_here", "_law_below"] spTake := has_take ATake
  have hO : Has l.prog w K mg base 2 "_law_of" ["_law_urn_here", "_law_items"] (spOf K) := has_of M AOf ATake
  have hI := ok_item M AItem hO (hT.up (by decide))
  have hS : ∀ n, Has l.prog w K mg base (2 * n) "step_count" ["program"] (spTI K (okB n) lens) := ok_steps M ALength AStep_count
  have hP := ok_locate (n := 4) (k := 12) M ALocate (by decide) ((hS 5).up (by decide)) ((ok_bt (k := 0) M AIs_between).up (by decide)) ((ok_place M APlace (ok_length M ALength (hS 4))).up (by decide))
  have hR := ok_right (d := 4) (k := 13) M ARight (by decide) ((ok_lsteps M ASteps 5).up (by decide)) ((hS 5).up (by decide)) ((ok_path M APath ASteps hO hT 5 (by decide)).up (by decide)) ((ok_number M ANumber ASteps 5).up (by decide)) hP ((ok_itemat M AItem_at 5).up (by decide)) (hT.up (by decide))
  have hLaw := ok_law (P := l.prog) (w := w) (base := base) (k := 14) M ALaw ((has_urn M AUrn).up (by decide)) (hT.up (by decide)) ((ok_prime APrime hO).up (by decide)) ((ok_body M ABody (hO.up (k := 3) (by decide)) (hT.up (by decide)) hI 5).up (by decide)) hR
  obtain ⟨f, fd, c⟩ := hLaw
  cases hfa.symm.trans c.g
  cases hfa.symm.trans (PySem.W.mg_of X G a16)
  obtain ⟨_, _, _, e⟩ := c.lk
  cases e.symm.trans l16
  exact c.ok
end K08
open PySem PySem.W PyProof.Rows
set_option maxRecDepth 100000 in
set_option maxHeartbeats 0 in
theorem PySem.Challenge.cw_leastjournal_k08_whole_steps_of_great_lo_holds : PySem.Challenge.rw_leastjournal_k08_whole_steps_of_great_lo.Holds := by
  w_on; o_law; k_head; (case hw => w_witness2)
  k_fill
  refine Lj.walk_G (l := PySem.Challenge.rw_leastjournal_k08_whole_steps_of_great_lo) (n := 63) (k := 15) (x := "_law_script") (sp := K08.spLaw) rfl (by decide) rfl ⟨rfl, by decide, by decide⟩ (fun w h Y => PySem.W.kIn_of Y) ?F (fun _ _ a ns hl _ hS => ⟨a, ns, rfl, hS, hl, fun _ => rfl⟩)
  case F =>
    intro w mg fa h KX G hmg
    refine' K08.all_mk KX G hmg ?a0 ?l0 ?c0 ?k0 ?a1 ?l1 ?c1 ?k1 ?a2 ?l2 ?c2 ?k2 ?a3 ?l3 ?c3 ?k3 ?a4 ?l4 ?c4 ?k4 ?a5 ?l5 ?c5 ?k5 ?a6 ?l6 ?c6 ?k6 ?a7 ?l7 ?c7 ?k7 ?a8 ?l8 ?c8 ?k8 ?a9 ?l9 ?c9 ?k9 ?a10 ?l10 ?c10 ?k10 ?a11 ?l11 ?c11 ?k11 ?a12 ?l12 ?c12 ?k12 ?a13 ?l13 ?c13 ?k13 ?a14 ?l14 ?c14 ?k14 ?a15 ?l15 ?c15 ?k15 ?a16 ?l16 ?c16 ?k16 ?z0 ?z1 ?z2 ?z3 ?z4 ?z5 ?z6 ?z7 ?z8 ?z9 ?z10 ?z11 ?z12 ?z13 ?z14 ?z15
    (case a0 => k_is); (case l0 => k_is); (case c0 => k_is); (case k0 => k_is); (case a1 => k_is); (case l1 => k_is); (case c1 => k_is); (case k1 => k_is); (case a2 => k_is); (case l2 => k_is); (case c2 => k_is); (case k2 => k_is); (case a3 => k_is); (case l3 => k_is); (case c3 => k_is); (case k3 => k_is); (case a4 => k_is); (case l4 => k_is); (case c4 => k_is); (case k4 => k_is); (case a5 => k_is); (case l5 => k_is); (case c5 => k_is); (case k5 => k_is); (case a6 => k_is); (case l6 => k_is); (case c6 => k_is); (case k6 => k_is); (case a7 => k_is); (case l7 => k_is); (case c7 => k_is); (case k7 => k_is); (case a8 => k_is); (case l8 => k_is); (case c8 => k_is); (case k8 => k_is); (case a9 => k_is); (case l9 => k_is); (case c9 => k_is); (case k9 => k_is); (case a10 => k_is); (case l10 => k_is); (case c10 => k_is); (case k10 => k_is); (case a11 => k_is); (case l11 => k_is); (case c11 => k_is); (case k11 => k_is); (case a12 => k_is); (case l12 => k_is); (case c12 => k_is); (case k12 => k_is); (case a13 => k_is); (case l13 => k_is); (case c13 => k_is); (case k13 => k_is); (case a14 => k_is); (case l14 => k_is); (case c14 => k_is); (case k14 => k_is); (case a15 => k_is); (case l15 => k_is); (case c15 => k_is); (case k15 => k_is); (case a16 => k_is); (case l16 => k_is); (case c16 => k_is); (case k16 => k_is); (case z0 => k_is); (case z1 => k_is); (case z2 => k_is); (case z3 => k_is); (case z4 => k_is); (case z5 => k_is); (case z6 => k_is); (case z7 => k_is); (case z8 => k_is); (case z9 => k_is); (case z10 => k_is); (case z11 => k_is); (case z12 => k_is); (case z13 => k_is); (case z14 => k_is); (case z15 => k_is)
