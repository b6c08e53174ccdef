import PyProof.Rows.All
import Wide.All
import OpenK.AllK
import Wide.FinOn
import HandS.ForMost
import HandS.Wide
import HandS.IsInst
import HandS.Flow
import HandS.Evl
import PyProof.StrBlock2
import HandS.Zip
import HandS.Walk
import HandS.WideBits
import HandS.TupAny
import HandS.Star
import HandS.Style
import HandS.Conv
import PySem.Challenge.RW_leastjournal_k16_whole_unrolled_loops
set_option Elab.async false
set_option linter.all false
set_option maxRecDepth 100000
namespace Lj
open PySem PySem.Spec PyProof.Rows L2
section
variable {X : Cx}
theorem op_mulS : OpR X (binaryOp .Mult) (fun x y H Q => ∃ z n, x = .str z ∧ y = .int n ∧ MulOk z n ∧ Q (.str (Txt.mul z n)) H) := by
  intro pins s σ H x y v u Q I rx ry h
  obtain ⟨z, n, rfl, rfl, ok, q⟩ := h
  obtain ⟨t, rfl⟩ := rx
  obtain ⟨t', rfl⟩ := ry
  exact SB.mul ok fun t2 k => ⟨.str _, H, I.tok _, ⟨_, rfl⟩, q⟩
end
section
variable {X : Cx} {CX : CXT} {k : Nat} {f : Addr} {fd : FuncData} {ps ks : List Str} {sp : Sp} {E : XK} {x : Str} {p pos : Pos} {kws : List Keyword} {tk : TA}
  {g : List Value → List Value → List Value} {gV : List V → List V → List V}
/-- f(k = v, ..), no positional arguments -/
theorem pe_callK0 (F : FnOk X.prog X.w X.K X.mg X.base CX k f fd ps sp) (hr : Room k X.A) (hg : Gl X x) (hm : X.mg x = some (.ref f)) (hk : PySem.W.keepIn X.K (.ref f) = true) (hb : KBinds X.K fd ps ks g gV) (hx : Passes CX X E)
    (hkw : PK X kws tk) (hall : (backToKw pos (keywordEach kws X.env)).all (·.1.isSome) = true := by rfl) (hks : (backToKw pos (keywordEach kws X.env)).filterMap (·.1) = ks := by rfl)
    (hdb : (x == ("__debug__" : Str)) = false := by decide)
    (hpl : ((backTo pos (starEach [] X.env)).any (·.1) || (backToKw pos (keywordEach kws X.env)).any (·.1.isNone)) = false := by rfl) :
    PE X (.Call (.Name x p) [] kws pos) (fun σ H Q => tk σ H fun zs H1 => sp (gV [] zs) H1 Q E) := by
  refine ⟨fun pins s σ H Q I h => ?_⟩
  refine wpAny_Call_Name_kw (ld_glob I hg hm ?_ hdb)
  refine PySem.W.callWith_KW0 (h₀ := X.base) I.ok.mod.kin hk hall (thn (hkw.run pos pins s σ H _ I h) fun ws s2 ⟨zs, H2, I2, rz, q2⟩ => ⟨I2.kIn, ?_⟩) hpl
  rw [hks]
  exact run_fnk (us := []) (vs := []) F hr hb hx I2 .nil rz q2
end
/-! ### heaps -/
theorem same_new {H : Hp} {p : Addr} {o : HO} (h : H p = none) : Same H (upd H p o) := fun b x e => by
  rw [upd_ne (ne_of_none e h)]
  exact e
/-- all but p stands as before -/
def But (p : Addr) (H H' : Hp) : Prop := ∀ b o, b ≠ p → H b = some o → H' b = some o
theorem But.refl (p : Addr) (H : Hp) : But p H H := fun _ _ _ h => h
theorem But.trans {p : Addr} {H H1 H2 : Hp} (a : But p H H1) (b : But p H1 H2) : But p H H2 := fun c o n h => b c o n (a c o n h)
theorem But.same {p : Addr} {H H' : Hp} (s : Same H H') : But p H H' := fun b o _ h => s b o h
theorem But.new {p q : Addr} {H : Hp} {o : HO} (h : H q = none) : But p H (upd H q o) := But.same (same_new h)
theorem But.upd {p : Addr} {H : Hp} {o : HO} : But p H (upd H p o) := fun b x n e => by
  rw [upd_ne n]
  exact e
theorem But.rd {p a : Addr} {H H' : Hp} {u : HO} (b : But p H H') (n : a ≠ p) (h : Rd H a u) : Rd H' a u := by
  rcases h with h | ⟨o, h⟩
  · exact .inl (b _ _ n h)
  · exact .inr ⟨o, b _ _ n h⟩
theorem But.seq {K : PySem.W.Frag} {p a : Addr} {H H' : Hp} {xs : List V} (b : But p H H') (n : a ≠ p) (h : SqL K H a xs) : SqL K H' a xs := by
  rcases h with h | h
  · exact .inl (b.rd n h)
  · exact .inr h
theorem But.tup {K : PySem.W.Frag} {p a : Addr} {H H' : Hp} {xs : List V} (b : But p H H') (n : a ≠ p) (h : SqT K H a xs) : SqT K H' a xs := by
  rcases h with h | h
  · exact .inl (b.rd n h)
  · exact .inr h
/-! ### the urn: two numbers in a list -/
def wide : Nat := 2 ^ 1000
def Urn (H : Hp) (p : Addr) : Prop := ∃ u v : Int, H p = some (.lst [.int u, .int v]) ∧ 0 ≤ u ∧ u.natAbs < wide ∧ 0 ≤ v ∧ v < 2305843009213693951
theorem Urn.but {p q : Addr} {H H' : Hp} (b : But q H H') (n : p ≠ q) (h : Urn H p) : Urn H' p := by
  obtain ⟨u, v, e, r⟩ := h
  exact ⟨u, v, b _ _ n e, r⟩
theorem Urn.same {p : Addr} {H H' : Hp} (b : Same H H') (h : Urn H p) : Urn H' p := by
  obtain ⟨u, v, e, r⟩ := h
  exact ⟨u, v, b _ _ e, r⟩
theorem Urn.ne {p q : Addr} {H : Hp} (h : Urn H p) (e : H q = none) : q ≠ p := by
  obtain ⟨u, v, e', _⟩ := h
  exact (ne_of_none e' e).symm
theorem Urn.free {p q : Addr} {H H' : Hp} (h : Urn H' p) (b : But p H H') (e : H' q = none) : H q = none := by
  have n := h.ne e
  cases z : H q with
  | none => rfl
  | some o => rw [b _ _ n z] at e; cases e
def spUrn (K : PySem.W.Frag) : Sp := fun vs H Q _ => ∃ (a : Addr) (ns : List Int) (k : Int), vs = [.ref a, .int k] ∧ SqL K H a (ns.map V.int) ∧ 0 ≤ k ∧ k ≤ 1000 ∧
  ∀ H' p, Same H H' → H p = none → Urn H' p → Q (.ref p) H'
def spTake : Sp := fun vs H Q _ => ∃ (p : Addr) (n : Int), vs = [.ref p, .int n] ∧ Urn H p ∧ 0 < n ∧ n.natAbs < wide ∧
  ∀ (d : Int) H', 0 ≤ d → d < n → Urn H' p → But p H H' → Q (.int d) H'
def spOf (K : PySem.W.Frag) : Sp := fun vs H Q _ => ∃ (p q : Addr) (xs : List V), vs = [.ref p, .ref q] ∧ Urn H p ∧ q ≠ p ∧ SqL K H q xs ∧ xs ≠ [] ∧ xs.length ≤ 1000 ∧
  ∀ x H', x ∈ xs → Urn H' p → But p H H' → Q x H'
def urnText : Str := "1" ++ Txt.mul "0" 300
theorem urnText_int : PySem.intText? urnText = some (10 ^ 300) := by decide +kernel
theorem urnText_len : urnText.length ≤ 640 := by decide +kernel
theorem mul_ok0 : MulOk "0" 300 := ⟨by decide, fun _ _ => by decide, fun _ _ => by decide⟩
theorem small {n : Nat} (h : n ≤ 1000) : n ≤ sizeLine := Nat.le_of_lt (small1000 h)
theorem own_lt (c : Int) (b : Bool) : 0 ≤ (if c < 0 then -c else c) % 10 ^ 300 * (if b then 1 else 0) ∧ ((if c < 0 then -c else c) % 10 ^ 300 * (if b then 1 else 0)).natAbs < wide := by
  have h1 : 0 ≤ (if c < 0 then -c else c) % (10 ^ 300 : Int) := Int.emod_nonneg _ (by decide)
  have h2 : (if c < 0 then -c else c) % (10 ^ 300 : Int) < 10 ^ 300 := Int.emod_lt_of_pos _ (by decide)
  generalize (if c < 0 then -c else c) % (10 ^ 300 : Int) = z at h1 h2
  have h3 : (10 ^ 300 : Int) < (wide : Int) := by decide +kernel
  have h4 : 0 < wide := by decide +kernel
  cases b with
  | true =>
    rw [if_pos rfl, Int.mul_one]
    exact ⟨h1, by omega⟩
  | false =>
    rw [if_neg Bool.false_ne_true, Int.mul_zero]
    exact ⟨Int.le_refl 0, h4⟩
theorem ind_bd (b : Bool) : -(2 ^ 64) < (if b then 1 else 0 : Int) ∧ (if b then 1 else 0 : Int) < 2 ^ 64 := by
  cases b
  · exact ⟨by decide, by decide⟩
  · exact ⟨by decide, by decide⟩
def nx (v : Int) : Int := (v * 1181783497276652981 + 12345678910987) % 2305843009213693951
theorem nx0 (v : Int) : 0 ≤ nx v := Int.emod_nonneg _ (by decide)
theorem nx1 (v : Int) : nx v < 2305843009213693951 := Int.emod_lt_of_pos _ (by decide)
def ny (v : Int) : Int := (v * 3202034522624059733 + 1) % 2305843009213693951
theorem ny0 (v : Int) : 0 ≤ ny v := Int.emod_nonneg _ (by decide)
theorem ny1 (v : Int) : ny v < 2305843009213693951 := Int.emod_lt_of_pos _ (by decide)
theorem at_int {ns : List Int} {k : Int} (h0 : 0 ≤ k) (h : k < (ns.length : Int)) : ∃ v : Int, v ∈ ns ∧ atI (ns.map V.int) k = some (.int v) := by
  have hk : k.toNat < ns.length := by omega
  have ek : k = ((k.toNat : Nat) : Int) := by omega
  have q : atI (ns.map V.int) ((k.toNat : Nat) : Int) = some (.int ns[k.toNat]) := atI_nat (by rw [List.getElem?_map, List.getElem?_eq_getElem hk] <;> rfl)
  rw [← ek] at q
  exact ⟨ns[k.toNat], List.getElem_mem hk, q⟩
theorem at_any {xs : List V} {k : Int} (h0 : 0 ≤ k) (h : k < (xs.length : Int)) : ∃ v : V, v ∈ xs ∧ atI xs k = some v := by
  have hk : k.toNat < xs.length := by omega
  have ek : k = ((k.toNat : Nat) : Int) := by omega
  have q : atI xs ((k.toNat : Nat) : Int) = some xs[k.toNat] := atI_nat (List.getElem?_eq_getElem hk)
  rw [← ek] at q
  exact ⟨xs[k.toNat], List.getElem_mem hk, q⟩
theorem iteP {c A B : Prop} [Decidable c] (h : c) (a : A) : if decide c = true then A else B := by
  rw [decide_eq_true h]
  exact a
theorem iteN {c A B : Prop} [Decidable c] (h : ¬ c) (b : B) : if decide c = true then A else B := by
  rw [decide_eq_false h]
  exact b
/-! ### rules with the written part named: for the blocks of comprehensions -/
section
variable {X : Cx} {K : PySem.W.Frag}
theorem ix_tupK (h : X.K = K) : IxR X (rIxT K) := h ▸ ix_tup
theorem ix_listK (h : X.K = K) : IxR X (rIxL K) := h ▸ ix_list
def rLenS (K : PySem.W.Frag) : List V → Hp → VK → Prop := fun xs H Q => ∃ p ys, xs = [.ref p] ∧ (SqL K H p ys ∨ SqT K H p ys) ∧ Q (.int ys.length) H
theorem call_len_seqK (h : X.K = K) : CallR X (.builtin "len") (rLenS K) := h ▸ call_len_seq
end
end Lj
set_option Elab.async false
set_option linter.all false
set_option maxRecDepth 100000
namespace Lj
open PySem PySem.Spec PyProof.Rows L2
/-! ### promises of defs that are called where no repr is under way -/
/-- the def at f keeps sp wherever nothing is being shown -/
structure FnG (P : Program) (w : World) (K : PySem.W.Frag) (mg : Str → Option Value) (base : Heap) (k : Nat) (f : Addr) (fd : FuncData) (ps : List Str) (sp : Sp) : Prop where
  len : ∀ vs H Q E, sp vs H Q E → vs.length = ps.length
  run : ∀ (A : Around) (out : List Env) (s : Shared) (H : Hp) (as : Args) (us : List Value) (vs : List V) (Q : VK) (E : XK), A.guards = some [] → Room k A → Env0 P w K mg base A out s H →
    BindsTo s fd as (ps.zip us) → Vals vs us → sp vs H Q E → codeAny (model P w) A (.call (.ref f) as) (CR CX0 out P w H s Q E) s
section
variable {P : Program} {w : World} {K : PySem.W.Frag} {mg : Str → Option Value} {base : Heap} {j k : Nat} {f : Addr} {fd : FuncData} {ps : List Str} {sp sp' : Sp}
theorem FnG.of (F : FnOk P w K mg base CX0 k f fd ps sp) : FnG P w K mg base k f fd ps sp := ⟨F.len, fun A out s H as us vs Q E _ => F.run A out s H as us vs Q E⟩
theorem FnG.up (F : FnG P w K mg base j f fd ps sp) (h : j ≤ k) : FnG P w K mg base k f fd ps sp := ⟨F.len, fun A out s H as us vs Q E g r => F.run A out s H as us vs Q E g (r.mono h)⟩
theorem FnG.weak (F : FnG P w K mg base k f fd ps sp) (h : ∀ vs H Q E, sp' vs H Q E → sp vs H Q E) : FnG P w K mg base k f fd ps sp' :=
  ⟨fun vs H Q E q => F.len vs H Q E (h _ _ _ _ q), fun A out s H as us vs Q E g r e b v q => F.run A out s H as us vs Q E g r e b v (h _ _ _ _ q)⟩
/-- by the def's body, where nothing is being shown -/
theorem FnG.body {x qual : Str} {st : Stmt} {N : List Str} (F : Fun K x qual st f fd) (S : FnScope N ps (defScope st)) (len : ∀ vs H Q E, sp vs H Q E → vs.length = ps.length)
    (hb : ∀ (cdv : Value) (A : Around) (out : List Env) (s : Shared) (H : Hp) (vs : List V) (Q : VK) (E : XK), A.guards = some [] → Room k (A.deeper (envOfC qual (defScope st) s.heap.objs.size f cdv)) → sp vs H Q E →
      ∃ t, PSs (cxOf CX0 P w K mg base N qual (defScope st) f cdv A out s H E).nox (defBody st) t ∧ t { nx := fun _ H' => Q .non H', rt := Q } (start N vs) H) : FnG P w K mg base (k + 1) f fd ps sp := by
  obtain ⟨c0, c1, c2, c3, c4, c5, cd, c6, c7, rfl, look, code⟩ := F.ex
  refine ⟨len, fun A out s H as us vs Q E hg room env bind vals want => ?_⟩
  have ln := len _ _ _ _ want
  have old : ∀ b o, base.get? b = some o → s.heap.get? b = some o := fun b o e => (env.bs b o e).1
  have here : K.In s.heap := env.mod.kin.keeps old
  refine codeAny_call_function room.depth (here _ _ look) rfl S.co S.gen rfl (PySem.W.codeRec_of here code) (bind _ _ _ _ ?_)
  refine wpAny_newFunctionEnv_cells S.kind (fun ⟨n, v⟩ m => (S.par n (List.of_mem_zip m).1).elim .inl fun c => .inr ⟨c, PySem.W.cellsFrom_some _ _ _ (.inl c)⟩) fun en he s1 x => ?_
  subst he
  refine ⟨(env.mod.nolimit.keeps old).keeps x.toInCall.keep, codeAny_func ?_⟩
  obtain ⟨t, rule, holds⟩ := hb cd A out s H vs Q E hg (room.deeper _) want
  have start0 := inv_start (CX := CX0) (E := E) S room.hd env ln vals x
  refine wpAny_mono (rule.nox.run [] s1 (start N vs) H _ start0 holds) (fun r s' z => ?_) fun _ _ z => z
  match r, z with
  | .ret u, ⟨v, σ', H', J, rv, q⟩ => exact ⟨v, H', J.os, J.bare, J.base, J.hok, rv, q⟩
  | .next, ⟨σ', H', J, q⟩ => exact ⟨.non, H', J.os, J.bare, J.base, J.hok, rfl, q⟩
  | .brk, ⟨_, _, _, q⟩ => exact False.elim q
  | .cont, ⟨_, _, _, q⟩ => exact False.elim q
end
/-- where a def stands, under the name x, with its promise -/
structure Cal (P : Program) (w : World) (K : PySem.W.Frag) (mg : Str → Option Value) (base : Heap) (k : Nat) (x : Str) (ps : List Str) (f : Addr) (fd : FuncData) (sp : Sp) : Prop where
  ok : FnG P w K mg base k f fd ps sp
  kp : PySem.W.keepIn K (.ref f) = true
  b : Binds K fd ps []
  g : mg x = some (.ref f)
  lk : ∃ oc od osl, K.lookup f = some ⟨oc, od, .func fd, osl⟩
theorem fun_lk {K : PySem.W.Frag} {x qual : Str} {st : Stmt} {f : Addr} {fd : FuncData} (F : Fun K x qual st f fd) : ∃ oc od osl, K.lookup f = some ⟨oc, od, .func fd, osl⟩ := by
  obtain ⟨c0, c1, c2, c3, c4, c5, cd, c6, c7, e, look, code⟩ := F.ex
  exact ⟨_, _, _, look⟩
def Has (P : Program) (w : World) (K : PySem.W.Frag) (mg : Str → Option Value) (base : Heap) (k : Nat) (x : Str) (ps : List Str) (sp : Sp) : Prop := ∃ f fd, Cal P w K mg base k x ps f fd sp
/-- the def of the text st stands under the name x -/
def At (K : PySem.W.Frag) (mg : Str → Option Value) (x : Str) (st : Stmt) (ps : List Str) : Prop := ∃ f fd, Fun K x x st f fd ∧ Binds K fd ps [] ∧ mg x = some (.ref f)
section
variable {P : Program} {w : World} {K : PySem.W.Frag} {mg : Str → Option Value} {base : Heap} {j k : Nat} {x : Str} {ps : List Str} {sp sp' : Sp}
theorem Has.up (h : Has P w K mg base j x ps sp) (l : j ≤ k) : Has P w K mg base k x ps sp := by
  obtain ⟨f, fd, c⟩ := h
  exact ⟨f, fd, c.ok.up l, c.kp, c.b, c.g, c.lk⟩
theorem Has.weak (h : Has P w K mg base k x ps sp) (i : ∀ vs H Q E, sp' vs H Q E → sp vs H Q E) : Has P w K mg base k x ps sp' := by
  obtain ⟨f, fd, c⟩ := h
  exact ⟨f, fd, c.ok.weak i, c.kp, c.b, c.g, c.lk⟩
theorem Has.by {st : Stmt} {N : List Str} (F : At K mg x st ps) (S : FnScope N ps (defScope st)) (len : ∀ vs H Q E, sp vs H Q E → vs.length = ps.length)
    (hb : ∀ (f : Addr) (cdv : Value) (A : Around) (out : List Env) (s : Shared) (H : Hp) (vs : List V) (Q : VK) (E : XK), A.guards = some [] → Room k (A.deeper (envOfC x (defScope st) s.heap.objs.size f cdv)) → sp vs H Q E →
      ∃ t, PSs (cxOf CX0 P w K mg base N x (defScope st) f cdv A out s H E).nox (defBody st) t ∧ t { nx := fun _ H' => Q .non H', rt := Q } (start N vs) H) : Has P w K mg base (k + 1) x ps sp := by
  obtain ⟨f, fd, F, b, g⟩ := F
  exact ⟨f, fd, .body F S len (hb f), F.kp, b, g, fun_lk F⟩
end
/-- the def behind a name is the text's -/
theorem Cal.text {P : Program} {w : World} {K : PySem.W.Frag} {mg : Str → Option Value} {base : Heap} {k : Nat} {x : Str} {ps qs : List Str} {f : Addr} {fd : FuncData} {sp : Sp} {st : Stmt} (c : Cal P w K mg base k x ps f fd sp) (F : At K mg x st qs) : Fun K x x st f fd := by
  obtain ⟨f2, fd2, F2, _, g2⟩ := F
  have e := c.g.symm.trans g2
  cases e
  obtain ⟨_, _, _, l1⟩ := c.lk
  obtain ⟨_, _, _, l2⟩ := fun_lk F2
  have e := l1.symm.trans l2
  cases e
  exact F2
section
variable {X : Cx} {k : Nat} {x : Str} {ps ks : List Str} {f : Addr} {fd : FuncData} {sp : Sp} {p pos : Pos} {e : Expr} {es : List Expr} {kws : List Keyword} {t tk : TA}
  {g : List Value → List Value → List Value} {gV : List V → List V → List V}
def tCal (sp : Sp) (t : TA) : TE := fun σ H Q => t σ H fun vs H1 => sp vs H1 Q E0
def tCal0 (sp : Sp) : TE := fun _ H Q => sp [] H Q E0
def tCalK (sp : Sp) (gV : List V → List V → List V) (t tk : TA) : TE := fun σ H Q => t σ H fun vs H1 => tk σ H1 fun zs H2 => sp (gV vs zs) H2 Q E0
theorem cal_run {pins : List (Addr × Obj)} {σ : L2.St} {H : Hp} {s : Shared} {Q : VK} {us ws zs : List Value} {vs : List V} {kw : List (Str × Value)} {s2 : Shared} (c : FnG X.prog X.w X.K X.mg X.base k f fd ps sp) (hg : X.A.guards = some []) (hr : Room k X.A)
    (I : Inv X pins σ H s) (bind : BindsTo s fd ⟨us, kw⟩ (ps.zip zs)) (vals : Vals vs zs) (h : sp vs H Q E0) : wpAny (model X.prog X.w) X.A (call (.ref f) us kw) (EP X pins σ Q) X.xe s := by
  refine wpAny_call (codeAny_mono (c.run X.A X.stack s H ⟨us, kw⟩ zs vs Q E0 hg hr I.env0 bind vals h) fun r s' z => ?_)
  match r, z with
  | .error _, z => exact z.elim
  | .ok (.ret _), z => exact I.after z
  | .ok .next, z => exact z.elim
  | .ok .brk, z => exact z.elim
  | .ok .cont, z => exact z.elim
/-- f(e, ..) -/
theorem pe_cal (c : Cal X.prog X.w X.K X.mg X.base k x ps f fd sp) (hg : X.A.guards = some []) (hr : Room k X.A) (gl : Gl X x) (ha : PA X (e :: es) t) (hdb : (x == ("__debug__" : Str)) = false := by decide)
    (he : starEach (e :: es) X.env = (false, eval e X.env) :: starEach es X.env := by rfl) (hpl : (backTo pos (starEach es X.env)).any (·.1) = false := by rfl) :
    PE X (.Call (.Name x p) (e :: es) [] pos) (tCal sp t) := by
  refine ⟨fun pins s σ H Q I h => wpAny_Call_Name_kw (ld_glob I gl c.g ?_ hdb)⟩
  refine PySem.W.callWith_K (h₀ := X.base) I.ok.mod.kin c.kp (thn (ha.run pos pins s σ H _ I h) fun us s1 ⟨vs, H1, I1, r, q⟩ => ⟨I1.kIn, ?_⟩) he hpl
  have ln : (us ++ []).length = ps.length := by
    rw [List.append_nil, ← r.length]
    exact c.ok.len _ _ _ _ q
  have bd := c.b s1 us I1.kIn ln
  rw [List.append_nil] at bd
  exact cal_run (ws := []) (s2 := s1) c.ok hg hr I1 bd r q
/-- f() -/
theorem pe_cal0 (c : Cal X.prog X.w X.K X.mg X.base k x ps f fd sp) (hg : X.A.guards = some []) (hr : Room k X.A) (gl : Gl X x) (hdb : (x == ("__debug__" : Str)) = false := by decide) :
    PE X (.Call (.Name x p) [] [] pos) (tCal0 sp) := by
  refine ⟨fun pins s σ H Q I h => wpAny_Call_Name_kw (ld_glob I gl c.g ?_ hdb)⟩
  have ln := c.ok.len _ _ _ _ h
  exact PySem.W.callWith_K0 I.kIn c.kp (cal_run (ws := []) (zs := []) (s2 := s) c.ok hg hr I (c.b s [] I.kIn ln) .nil h)
/-- f(e, .., n = v, ..) and f(n = v, ..) -/
theorem pe_calK (c : Cal X.prog X.w X.K X.mg X.base k x ps f fd sp) (hb : KBinds X.K fd ps ks g gV) (hg : X.A.guards = some []) (hr : Room k X.A) (gl : Gl X x) (ha : PA X (e :: es) t) (hkw : PK X kws tk)
    (hall : (backToKw pos (keywordEach kws X.env)).all (·.1.isSome) = true := by rfl) (hks : (backToKw pos (keywordEach kws X.env)).filterMap (·.1) = ks := by rfl) (hdb : (x == ("__debug__" : Str)) = false := by decide)
    (he : starEach (e :: es) X.env = (false, eval e X.env) :: starEach es X.env := by rfl)
    (hpl : ((backTo pos (starEach (e :: es) X.env)).any (·.1) || (backToKw pos (keywordEach kws X.env)).any (·.1.isNone)) = false := by rfl) :
    PE X (.Call (.Name x p) (e :: es) kws pos) (tCalK sp gV t tk) := by
  refine ⟨fun pins s σ H Q I h => wpAny_Call_Name_kw (ld_glob I gl c.g ?_ hdb)⟩
  refine PySem.W.callWith_KW (h₀ := X.base) I.ok.mod.kin c.kp hall (thn (ha.run pos pins s σ H _ I h) fun us s1 ⟨vs, H1, I1, r, q⟩ => ?_) hpl he
  refine thn (hkw.run pos pins s1 σ H1 _ I1 q) fun ws s2 ⟨zs, H2, I2, rz, q2⟩ => ⟨I2.kIn, ?_⟩
  rw [hks]
  have r2 := hb.rel r rz
  exact cal_run (ws := []) (s2 := s2) c.ok hg hr I2 (hb.to s2 us ws I2.kIn (by rw [← r2.length]; exact c.ok.len _ _ _ _ q2)) r2 q2
theorem pe_calK0 (c : Cal X.prog X.w X.K X.mg X.base k x ps f fd sp) (hb : KBinds X.K fd ps ks g gV) (hg : X.A.guards = some []) (hr : Room k X.A) (gl : Gl X x) (hkw : PK X kws tk)
    (hall : (backToKw pos (keywordEach kws X.env)).all (·.1.isSome) = true := by rfl) (hks : (backToKw pos (keywordEach kws X.env)).filterMap (·.1) = ks := by rfl) (hdb : (x == ("__debug__" : Str)) = false := by decide)
    (hpl : ((backTo pos (starEach [] X.env)).any (·.1) || (backToKw pos (keywordEach kws X.env)).any (·.1.isNone)) = false := by rfl) :
    PE X (.Call (.Name x p) [] kws pos) (tCalK sp gV tNil tk) := by
  refine ⟨fun pins s σ H Q I h => wpAny_Call_Name_kw (ld_glob I gl c.g ?_ hdb)⟩
  refine PySem.W.callWith_KW0 (h₀ := X.base) I.ok.mod.kin c.kp hall (thn (hkw.run pos pins s σ H _ I h) fun ws s2 ⟨zs, H2, I2, rz, q2⟩ => ⟨I2.kIn, ?_⟩) hpl
  rw [hks]
  have r2 := hb.rel (vs := []) (us := []) .nil rz
  exact cal_run (ws := []) (s2 := s2) c.ok hg hr I2 (hb.to s2 [] ws I2.kIn (by rw [← r2.length]; exact c.ok.len _ _ _ _ q2)) r2 q2
end
/-! ### repr of data -/
theorem repr_flat {P : Program} {w : World} {A : Around} {E : Value → Shared → Prop} {s : Shared} {u : Value} {d : PyData} {as : List Addr} {Q : Value → Shared → Prop} (r : Reads s.heap u d as) (sh : d.showable = true) (nd : d.hasDict = false) (hg : A.guards = some []) (hu : A.units + (d.depth + 1) < cLine) (sz : d.shown.length ≤ sizeLine)
    (hQ : ∀ h' t tk, (∀ b o, s.heap.get? b = some o → h'.get? b = some o) → Q (.str d.shown t) { s with heap := h', toks := tk }) : wpAny (model P w) A (call (.builtin "repr") [u]) Q E s := by
  have no : ∀ b o, s.heap.get? b = some o → s.heap.get? b = some o := fun _ _ e => e
  cases r with
  | none => exact _root_.PySem.P.repr_of_none (hQ s.heap s.toks (s.toks + 1) no)
  | bool b =>
    refine _root_.PySem.P.repr_of_bool ?_
    cases b
    · exact hQ s.heap s.toks (s.toks + 1) no
    · exact hQ s.heap s.toks (s.toks + 1) no
  | int i t => exact _root_.PySem.P.repr_of_int (of_decide_eq_true sh) (hQ s.heap s.toks (s.toks + 1) no)
  | str x t => exact _root_.PySem.P.repr_of_str (hQ s.heap s.toks (s.toks + 1) no) sz
  | list a b c d => exact PySem.repr_of_reads' (.list a b c d) sh (fun z => by rw [nd] at z; cases z) hg hu no (fun h' t tk z => hQ h' t tk z) sz
  | tuple a b c d => exact PySem.repr_of_reads' (.tuple a b c d) sh (fun z => by rw [nd] at z; cases z) hg hu no (fun h' t tk z => hQ h' t tk z) sz
  | dict a b c d e => cases nd
section
variable {X : Cx} {k : Nat}
/-- repr(x), x data without dicts -/
theorem call_reprD (hg : X.A.guards = some []) (hr : Room k X.A) : CallR X (.builtin "repr") (fun xs H Q => ∃ x d, xs = [x] ∧ Dp X.K H x d ∧ d.showable = true ∧ d.hasDict = false ∧ d.depth ≤ 64 ∧ d.shown.length ≤ sizeLine ∧ Q (.str d.shown) H) := by
  intro pins s σ H xs us Q I r h
  obtain ⟨x, d, rfl, dp, sh, nd, de, sz, q⟩ := h
  obtain ⟨u, rfl, ru⟩ := r.one
  obtain ⟨as, rd⟩ := Dp.reads I d x u dp ru
  have un := hr.un
  exact repr_flat rd sh nd hg (by omega) sz fun h' t tk keep => ⟨.str _, H, I.kept keep, ⟨_, rfl⟩, q⟩
end
def rRepr (K : PySem.W.Frag) : List V → Hp → VK → Prop := fun xs H Q => ∃ x d, xs = [x] ∧ Dp K H x d ∧ d.showable = true ∧ d.hasDict = false ∧ d.depth ≤ 64 ∧ d.shown.length ≤ sizeLine ∧ Q (.str d.shown) H
theorem call_reprDK {X : Cx} {K : PySem.W.Frag} {k : Nat} (h : X.K = K) (hg : X.A.guards = some []) (hr : Room k X.A) : CallR X (.builtin "repr") (rRepr K) := h ▸ call_reprD hg hr
/-! ### the end: the law's promise where the claim's caller calls it -/
theorem end_call {P : Program} {w : World} {K : PySem.W.Frag} {mg mb : Str → Option Value} {k : Nat} {fa a : Addr} {fd : FuncData} {x : Str} {sp : Sp} {s : Shared} {vs : List Value} {ns : List Int}
    (kin : K.In s.heap) (glob : s.heap.Ns mainGlobals mg) (blt : s.heap.Ns builtinsNs mb) (same : ∀ x : Str, x ≠ "__name__" → mb x = bootBuiltins x) (lim : s.heap.NoLimit) (gens : s.gens = #[])
    (obj : s.heap.get? a = some { cls := .type "list", data := .seq vs.toArray }) (numb : IntsAre vs ns) (short : ns.length ≤ sizeLine) (room : Room k callerA)
    (F : ∀ base : Heap, K.In base → base.Ns mainGlobals mg → FnG P w K mg base k fa fd [x] sp) (bind : ∀ (s : Shared) (u : Value), BindsTo s fd ⟨[u], []⟩ [(x, u)])
    (want : ∀ H : Hp, Only H → SqL K H a (ns.map V.int) → sp [.ref a] H (fun v _ => v = .bl true) fun _ _ _ => False) :
    codeAny (model P w) callerA (.call (.ref fa) ⟨[.ref a], []⟩) (fun r s' => r = .ok (.ret (.bool true)) ∧ OldK s.heap s'.heap ∧ s'.os = s.os ∧ AllBare s'.gens) s := by
  have vals := vals_ints numb
  -- one step: whatever part H of the script's object is tracked
  have go : ∀ H : Hp, Only H → SqL K H a (ns.map V.int) → HOk P w H s.heap → (∀ b, H b ≠ none → b = a ∧ K.lookup a = none) →
      codeAny (model P w) callerA (.call (.ref fa) ⟨[.ref a], []⟩) (fun r s' => r = .ok (.ret (.bool true)) ∧ OldK s.heap s'.heap ∧ s'.os = s.os ∧ AllBare s'.gens) s := by
    intro H only sq hok at1
    have untracked : ∀ {b : Addr} {o : Obj} {es : Array DictEntry} {n : Nat}, s.heap.get? b = some o → o.data = .dict es n → H b = none := fun {b o es n} e d => by
      by_cases z : H b = none
      · exact z
      · have e2 := (at1 b z).1
        subst e2
        rw [obj] at e
        cases e
        cases d
    have names : ∀ {b : Addr} {m : Str → Option Value}, s.heap.Ns b m → (hidT s.heap H).Ns b m := fun {b m} ⟨o, es, n, e, d, r⟩ => ⟨o, es, n, hidT_get e (untracked e d), d, r⟩
    have kin2 : K.In (hidT s.heap H) := fun b o e => by
      refine hidT_get (kin b o e) ?_
      by_cases z : H b = none
      · exact z
      · obtain ⟨z1, z2⟩ := at1 b z
        rw [z1, z2] at e
        cases e
    obtain ⟨mc, l1, l2⟩ := lim
    have env : Env0 P w K mg (hidT s.heap H) callerA [] s H :=
      ⟨rfl, ⟨kin2, names glob, ⟨mb, names blt, same⟩, ⟨mc, names l1, l2⟩⟩, fun b o e => of_hidT e, Nat.le_of_eq (hidT_size _ _), trivial, fun b m => absurd (show b ∈ ([] : List Addr) from m) List.not_mem_nil, hok, AllBare.of_eq gens⟩
    refine codeAny_mono ((F _ kin2 (names glob)).run callerA [] s H ⟨[.ref a], []⟩ [.ref a] [.ref a] _ _ rfl room env (bind s (.ref a)) (.cons rfl .nil) (want H only sq)) fun r s' z => ?_
    match r, z with
    | .error _, z => exact z.elim
    | .ok .next, z => exact z.elim
    | .ok .brk, z => exact z.elim
    | .ok .cont, z => exact z.elim
    | .ok (.ret u), ⟨v, H', os, bare, un, hok2, rv, q⟩ =>
      have q : v = .bl true := q
      subst q
      obtain rfl : u = Value.bool true := rv
      refine ⟨rfl, OldK.of_keep fun b o e => ?_, os, bare⟩
      by_cases z : H b = none
      · exact un.keep b o e z (fun m => absurd (show b ∈ ([] : List Addr) from m) List.not_mem_nil) List.not_mem_nil
      · rcases only b with y | ⟨ob, xs, y⟩
        · exact absurd y z
        · have e1 := (hok b _ y).1
          have e2 := (hok2 b _ (un.frzs b ob _ y)).1
          rw [e] at e1
          cases e1
          exact e2
  by_cases hk : K.lookup a = none
  · refine go (fun b => if b = a then some (.frz { cls := .type "list", data := .seq vs.toArray } (.lst (ns.map V.int))) else none) (fun b => ?_) (.inl (.inr ⟨_, if_pos rfl⟩)) (fun b u e => ?_) (fun b e => ?_)
    · by_cases y : b = a
      · exact .inr ⟨_, _, if_pos y⟩
      · exact .inl (if_neg y)
    · by_cases y : b = a
      · cases (if_pos y).symm.trans e
        subst y
        exact ⟨obj, by rw [List.length_map]; exact short, vs, _, vals, obj⟩
      · cases (if_neg y).symm.trans e
    · by_cases y : b = a
      · exact ⟨y, hk⟩
      · exact absurd (if_neg y) e
  · obtain ⟨o, ho⟩ := Option.ne_none_iff_exists'.mp hk
    have e := kin a o ho
    rw [obj] at e
    cases e
    refine go (fun _ => none) (fun _ => .inl rfl) (.inr ⟨_, vs.toArray, _, ho, rfl, rfl, rfl, ?_, vals⟩) (fun b u e => by cases e) (fun b e => absurd rfl e)
    rw [List.size_toArray, numb.length]
    exact short
theorem walk_G {l : PySem.W.OpenLaw} {n k : Nat} {q : Program} {loose : List Str} {XP : (Str → Option Value) → Heap → Prop} {YP : World → Heap → Prop} {d : DefRec} {K : Params → PySem.W.Frag} {sp : PySem.W.Frag → Sp} {x : Str}
    (hn : l.most = some n) (hn2 : n ≤ sizeLine) (hdf : d.params.defaults = []) (hr : Room k callerA) (hY : ∀ (w : World) (h : Heap), YP w h → (K w.params).In h)
    (F : ∀ (w : World) (mg : Str → Option Value) (fa : Addr) (h : Heap), (K w.params).In h → h.Ns mainGlobals mg → mg d.name = some (.ref fa) →
      ∃ fd : FuncData, (∀ (s : Shared) (u : Value), BindsTo s fd ⟨[u], []⟩ [(x, u)]) ∧ ∀ base : Heap, (K w.params).In base → base.Ns mainGlobals mg → FnG l.prog w (K w.params) mg base k fa fd [x] (sp (K w.params)))
    (want : ∀ (K : PySem.W.Frag) (H : Hp) (a : Addr) (ns : List Int), ns.length ≤ n → Only H → SqL K H a (ns.map V.int) → sp K [.ref a] H (fun v _ => v = .bl true) fun _ _ _ => False) :
    PySem.W.WalkO q loose XP YP l.row.toRowW d [] (fun f vs => PySem.call f vs) := by
  refine Att.attach_call hn hdf fun w s0 s mg mb fa o pm cd doc a vs ns G Y _ _ _ hmg obj numb short gens => ?_
  have kin := hY w _ Y
  obtain ⟨fd, bind, ok⟩ := F w mg fa _ kin G.T.g hmg
  exact end_call kin G.T.g G.T.b G.T.builtins G.T.nolimit gens obj numb (Nat.le_trans short hn2) hr ok bind fun H o sq => want _ H a ns short o sq
end Lj
set_option Elab.async false
set_option linter.all false
set_option maxRecDepth 100000
namespace Lj
open PySem PySem.Spec PyProof.Rows L2
/-- the built-ins are not hidden by names of the module -/
structure Bl (mg : Str → Option Value) : Prop where
  len_ : mg "len" = none
  abs_ : mg "abs" = none
  int_ : mg "int" = none
  range_ : mg "range" = none
  max_ : mg "max" = none
  min_ : mg "min" = none
  all_ : mg "all" = none
  sum_ : mg "sum" = none
  list_ : mg "list" = none
  tuple_ : mg "tuple" = none
  isinstance_ : mg "isinstance" = none
  bool_ : mg "bool" = none
  repr_ : mg "repr" = none
  enumerate_ : mg "enumerate" = none
  zip_ : mg "zip" = none
  divmod_ : mg "divmod" = none
theorem Has.none {P : Program} {w : World} {K : PySem.W.Frag} {mg : Str → Option Value} {base : Heap} {k : Nat} {x : Str} {ps : List Str} {sp : Sp} {st : Stmt} (F : At K mg x st ps) (no : ∀ vs H Q E, ¬ sp vs H Q E) : Has P w K mg base k x ps sp := by
  obtain ⟨f, fd, F, b, g⟩ := F
  exact ⟨f, fd, ⟨fun vs H Q E h => absurd h (no vs H Q E), fun A out s H as us vs Q E _ _ _ _ _ h => absurd h (no vs H Q E)⟩, F.kp, b, g, fun_lk F⟩
/-! ### trees: instructions -/
inductive Tr where
  | op (w : Str) (as : List Int)
  | loop (k : Int) (b : List Tr)
mutual
def Tr.len : Tr → Int
  | .op _ _ => 1
  | .loop k b => k * lens b
def lens : List Tr → Int
  | [] => 0
  | t :: r => t.len + lens r
end
mutual
def Tr.inn : Tr → Int
  | .op _ _ => 0
  | .loop _ b => (b.length : Int) + inns b
def inns : List Tr → Int
  | [] => 0
  | t :: r => t.inn + inns r
end
def szs (b : List Tr) : Int := (b.length : Int) + inns b
mutual
def Tr.dep : Tr → Int
  | .op _ _ => 0
  | .loop _ b => 1 + deps b
def deps : List Tr → Int
  | [] => 0
  | t :: r => if t.dep > deps r then t.dep else deps r
end
mutual
def Tr.cnt (w : Str) : Tr → Int
  | .op u _ => if u = w then 1 else 0
  | .loop k b => k * cnts w b
def cnts (w : Str) : List Tr → Int
  | [] => 0
  | t :: r => t.cnt w + cnts w r
end
mutual
/-- what is executed, one after another -/
def Tr.ex : Tr → List Tr
  | .op w as => [.op w as]
  | .loop k b => (List.replicate k.toNat (exs b)).flatten
def exs : List Tr → List Tr
  | [] => []
  | t :: r => t.ex ++ exs r
end
mutual
/-- loops at most n deep, the words of the others not loop -/
def Tr.wf : Tr → Nat → Prop
  | .op w _, _ => w ≠ "loop"
  | .loop _ _, 0 => False
  | .loop k b, n + 1 => 0 ≤ k ∧ k ≤ 10 ^ 18 ∧ b.length ≤ 1000 ∧ wfs b n
def wfs : List Tr → Nat → Prop
  | [], _ => True
  | t :: r, n => t.wf n ∧ wfs r n
end
/-- a body for functions that may go n - 1 loops down -/
def okB : Nat → List Tr → Prop
  | 0, _ => False
  | n + 1, b => wfs b n ∧ b.length ≤ 1000
theorem lens_map : ∀ b : List Tr, lens b = (b.map Tr.len).sum
  | [] => rfl
  | t :: r => by rw [lens, lens_map r, List.map_cons, List.sum_cons]
theorem inns_map : ∀ b : List Tr, inns b = (b.map Tr.inn).sum
  | [] => rfl
  | t :: r => by rw [inns, inns_map r, List.map_cons, List.sum_cons]
theorem cnts_map (w : Str) : ∀ b : List Tr, cnts w b = (b.map (Tr.cnt w)).sum
  | [] => rfl
  | t :: r => by rw [cnts, cnts_map w r, List.map_cons, List.sum_cons]
theorem exs_map : ∀ b : List Tr, exs b = (b.map Tr.ex).flatten
  | [] => rfl
  | t :: r => by rw [exs, exs_map r, List.map_cons, List.flatten_cons]
theorem wfs_get : ∀ {b : List Tr} {n i : Nat} {t : Tr}, wfs b n → b[i]? = some t → t.wf n
  | [], _, _, _, _, e => by simp at e
  | t :: r, n, 0, u, h, e => by
    cases e
    rw [wfs] at h
    exact h.1
  | t :: r, n, i + 1, u, h, e => by
    rw [wfs] at h
    exact wfs_get (i := i) h.2 e
theorem wfs_all : ∀ {b : List Tr} {n : Nat}, (∀ t ∈ b, t.wf n) → wfs b n
  | [], _, _ => by rw [wfs]; trivial
  | t :: r, n, h => by
    rw [wfs]
    exact ⟨h t List.mem_cons_self, wfs_all fun u m => h u (List.mem_cons_of_mem _ m)⟩
theorem okB_loop {b b' : List Tr} {n i : Nat} {k : Int} (h : okB (n + 1) b) (e : b[i]? = some (.loop k b')) : 0 ≤ k ∧ k ≤ 10 ^ 18 ∧ okB n b' := by
  have z := wfs_get h.1 e
  cases n with
  | zero => rw [Tr.wf] at z; exact z.elim
  | succ m =>
    rw [Tr.wf] at z
    exact ⟨z.1, z.2.1, z.2.2.2, z.2.2.1⟩
theorem okB_op {b : List Tr} {n i : Nat} {w : Str} {as : List Int} (h : okB (n + 1) b) (e : b[i]? = some (.op w as)) : w ≠ "loop" := by
  have z := wfs_get h.1 e
  rw [Tr.wf] at z
  exact z
theorem at0 {x : V} {xs : List V} : atI (x :: xs) 0 = some x := atI_nat (j := 0) rfl
theorem sum_next {f : Tr → Int} {b : List Tr} {i : Nat} {t : Tr} (e : b[i]? = some t) : ((b.take (i + 1)).map f).sum = ((b.take i).map f).sum + f t := by
  rw [List.take_add_one, e, List.map_append, List.sum_append]
  show _ + (f t + 0) = _
  rw [Int.add_zero]
theorem map_next {α : Type} {f : Tr → α} {b : List Tr} {i : Nat} {t : Tr} (e : b[i]? = some t) : (b.take (i + 1)).map f = (b.take i).map f ++ [f t] := by
  rw [List.take_add_one, e, List.map_append]
  rfl
/-! ### trees in the heap -/
def Kt (H H' : Hp) : Prop := ∀ a xs, Rd H a (.tup xs) → Rd H' a (.tup xs)
theorem Kt.refl (H : Hp) : Kt H H := fun _ _ h => h
theorem Kt.trans {H H1 H2 : Hp} (a : Kt H H1) (b : Kt H1 H2) : Kt H H2 := fun c o h => b c o (a c o h)
theorem Kt.same {H H' : Hp} (s : Same H H') : Kt H H' := fun a xs h => by
  rcases h with h | ⟨o, h⟩
  · exact .inl (s _ _ h)
  · exact .inr ⟨o, s _ _ h⟩
theorem Kt.but {p : Addr} {H H' : Hp} {xs : List V} (b : But p H H') (e : H p = some (.lst xs)) : Kt H H' := fun a ys h => by
  refine b.rd (fun z => ?_) h
  subst z
  rcases h with h | ⟨o, h⟩
  · rw [e] at h; cases h
  · rw [e] at h; cases h
theorem Urn.kt {p : Addr} {H H' : Hp} (u : Urn H p) (b : But p H H') : Kt H H' := by
  obtain ⟨_, _, e, _⟩ := u
  exact Kt.but b e
theorem Kt.sq {K : PySem.W.Frag} {H H' : Hp} {a : Addr} {xs : List V} (k : Kt H H') (h : SqT K H a xs) : SqT K H' a xs := by
  rcases h with h | h
  · exact .inl (k _ _ h)
  · exact .inr h
mutual
def TrAt (K : PySem.W.Frag) (H : Hp) : Tr → V → Prop
  | .op w as, v => ∃ a, v = .ref a ∧ SqT K H a (.str w :: as.map V.int)
  | .loop k b, v => ∃ a c vs, v = .ref a ∧ SqT K H a [.str "loop", .int k, .ref c] ∧ SqT K H c vs ∧ TrsAt K H b vs
def TrsAt (K : PySem.W.Frag) (H : Hp) : List Tr → List V → Prop
  | [], vs => vs = []
  | t :: r, vs => ∃ v us, vs = v :: us ∧ TrAt K H t v ∧ TrsAt K H r us
end
def BodyAt (K : PySem.W.Frag) (H : Hp) (b : List Tr) (v : V) : Prop := ∃ c vs, v = .ref c ∧ SqT K H c vs ∧ TrsAt K H b vs
mutual
theorem TrAt.kt {K : PySem.W.Frag} {H H' : Hp} (k : Kt H H') : ∀ (t : Tr) (v : V), TrAt K H t v → TrAt K H' t v
  | .op w as, v, h => by
    rw [TrAt] at h ⊢
    obtain ⟨a, e, s⟩ := h
    exact ⟨a, e, k.sq s⟩
  | .loop n b, v, h => by
    rw [TrAt] at h ⊢
    obtain ⟨a, c, vs, e, s, s2, r⟩ := h
    exact ⟨a, c, vs, e, k.sq s, k.sq s2, TrsAt.kt k b vs r⟩
theorem TrsAt.kt {K : PySem.W.Frag} {H H' : Hp} (k : Kt H H') : ∀ (b : List Tr) (vs : List V), TrsAt K H b vs → TrsAt K H' b vs
  | [], vs, h => by
    rw [TrsAt] at h ⊢
    exact h
  | t :: r, vs, h => by
    rw [TrsAt] at h ⊢
    obtain ⟨v, us, e, a, b⟩ := h
    exact ⟨v, us, e, TrAt.kt k t v a, TrsAt.kt k r us b⟩
end
theorem BodyAt.kt {K : PySem.W.Frag} {H H' : Hp} {b : List Tr} {v : V} (k : Kt H H') (h : BodyAt K H b v) : BodyAt K H' b v := by
  obtain ⟨c, vs, e, s, r⟩ := h
  exact ⟨c, vs, e, k.sq s, TrsAt.kt k b vs r⟩
theorem TrsAt.length {K : PySem.W.Frag} {H : Hp} : ∀ {b : List Tr} {vs : List V}, TrsAt K H b vs → vs.length = b.length
  | [], vs, h => by
    rw [TrsAt] at h
    rw [h]
    rfl
  | t :: r, vs, h => by
    rw [TrsAt] at h
    obtain ⟨v, us, rfl, _, k⟩ := h
    rw [List.length_cons, List.length_cons, TrsAt.length k]
theorem TrsAt.get {K : PySem.W.Frag} {H : Hp} : ∀ {b : List Tr} {vs : List V} {i : Nat} {v : V}, TrsAt K H b vs → vs[i]? = some v → ∃ t, b[i]? = some t ∧ TrAt K H t v
  | [], vs, i, v, h, e => by
    rw [TrsAt] at h
    rw [h] at e
    simp at e
  | t :: r, vs, 0, v, h, e => by
    rw [TrsAt] at h
    obtain ⟨v', us, rfl, a, _⟩ := h
    cases e
    exact ⟨t, rfl, a⟩
  | t :: r, vs, i + 1, v, h, e => by
    rw [TrsAt] at h
    obtain ⟨v', us, rfl, _, k⟩ := h
    exact TrsAt.get (i := i) k e
theorem TrsAt.append {K : PySem.W.Frag} {H : Hp} : ∀ {b c : List Tr} {vs us : List V}, TrsAt K H b vs → TrsAt K H c us → TrsAt K H (b ++ c) (vs ++ us)
  | [], c, vs, us, h, k => by
    rw [TrsAt] at h
    rw [h]
    exact k
  | t :: r, c, vs, us, h, k => by
    rw [TrsAt] at h
    obtain ⟨v, ws, rfl, a, l⟩ := h
    show TrsAt K H (t :: (r ++ c)) (v :: (ws ++ us))
    rw [TrsAt]
    exact ⟨v, _, rfl, a, TrsAt.append l k⟩
theorem TrsAt.one {K : PySem.W.Frag} {H : Hp} {t : Tr} {v : V} (h : TrAt K H t v) : TrsAt K H [t] [v] := by
  rw [TrsAt]
  exact ⟨v, [], rfl, h, by rw [TrsAt]⟩
theorem TrsAt.nil {K : PySem.W.Frag} {H : Hp} : TrsAt K H [] [] := by rw [TrsAt]
/-! ### promises about trees -/
def spTI (K : PySem.W.Frag) (ok : List Tr → Prop) (f : List Tr → Int) : Sp := fun vs H Q _ => ∃ v b, vs = [v] ∧ BodyAt K H b v ∧ ok b ∧ ∀ H', Same H H' → Q (.int (f b)) H'
def spII (K : PySem.W.Frag) (ok : Tr → Prop) (f : Tr → Int) : Sp := fun vs H Q _ => ∃ v t, vs = [v] ∧ TrAt K H t v ∧ ok t ∧ ∀ H', Same H H' → Q (.int (f t)) H'
def spWI (K : PySem.W.Frag) (ok : List Tr → Prop) : Sp := fun vs H Q _ => ∃ v b w, vs = [v, .str w] ∧ BodyAt K H b v ∧ ok b ∧ w ≠ "loop" ∧ ∀ H', Same H H' → Q (.int (cnts w b)) H'
theorem same_upd {H H' : Hp} {D : Addr} {o : HO} (s : Same H H') (n : H D = none) : Same H (upd H' D o) := fun b x e => by
  rw [upd_ne (ne_of_none e n)]
  exact s _ _ e
end Lj
namespace Lj
mutual
theorem Tr.dep_nn : ∀ t : Tr, 0 ≤ t.dep
  | .op _ _ => by rw [Tr.dep]; decide
  | .loop _ b => by
    rw [Tr.dep]
    have := deps_nn b
    omega
theorem deps_nn : ∀ b : List Tr, 0 ≤ deps b
  | [] => by rw [deps]; decide
  | t :: r => by
    rw [deps]
    have h1 := Tr.dep_nn t
    have h2 := deps_nn r
    split <;> omega
end
end Lj
set_option Elab.async false
set_option linter.all false
set_option maxRecDepth 100000
namespace Lj
open PySem PySem.Spec PyProof.Rows L2
def prs : List Int := [2, 2, 3, 3, 5, 7, 7, 11, 13, 97, 251, 9973, 10007]
theorem prs_bd {q : Int} (h : q ∈ prs) : 2 ≤ q ∧ q ≤ 10007 := by
  have z : (prs.all fun q => decide (2 ≤ q) && decide (q ≤ 10007)) = true := by decide
  have k := List.all_eq_true.mp z q h
  rw [Bool.and_eq_true] at k
  exact ⟨of_decide_eq_true k.1, of_decide_eq_true k.2⟩
def spPrimeU : Sp := fun vs H Q _ => ∃ p : Addr, vs = [.ref p] ∧ Urn H p ∧ ∀ (q : Int) H', q ∈ prs → Urn H' p → But p H H' → Q (.int q) H'
theorem wide_big {n : Int} (h : n ≤ 10 ^ 40) (h0 : 0 ≤ n) : n.natAbs < wide := by
  have z : (10 ^ 40 : Nat) < wide := by decide +kernel
  omega
/-! ### list.count of texts -/
def eqs (z : Str) (v : Value) : Bool := match v with
  | .str y _ => y == z
  | _ => false
theorem count_strs {z : Str} : ∀ {us : List Value} {ss : List Str}, Vals (ss.map V.str) us → us.countP (eqs z) = ss.count z
  | _, [], .nil => rfl
  | _, s :: ss, .cons ⟨t, rfl⟩ r => by
    rw [List.countP_cons, count_strs r, List.count_cons]
    rfl
theorem mem_strs : ∀ {us : List Value} {ss : List Str} {u : Value}, Vals (ss.map V.str) us → u ∈ us → ∃ s t, u = .str s t
  | _, [], _, .nil, m => by cases m
  | _, s :: ss, u, .cons ⟨t, rfl⟩ r, m => by
    rcases List.mem_cons.mp m with rfl | m
    · exact ⟨s, t, rfl⟩
    · exact mem_strs r m
theorem mt_count_str {X : Cx} : MtR X "list.count" (fun x xs H Q => ∃ (p : Addr) (ss : List Str) (z : Str), x = .ref p ∧ xs = [.str z] ∧ SqL X.K H p (ss.map V.str) ∧ Q (.int (ss.count z : Nat)) H) := by
  intro pins s σ H x xs v us Q I rx rxs h
  obtain ⟨p, ss, z, rfl, rfl, sq, q⟩ := h
  cases rx
  obtain ⟨u, rfl, ⟨t, rfl⟩⟩ := rxs.one
  obtain ⟨its, rv, ⟨⟨cls, dd, data, sl⟩, n, ho, hc, hdn, hd⟩, hlen⟩ := I.list sq
  simp only at hc hd
  subst hc hd
  refine call_meets PySem.F.slot_list_count ⟨_, ho, rfl⟩ PySem.F.entry_list_count (PySem.F.args_list_count_2 _ _) (SeqAt.list_countAt p its.toArray n dd sl (.str z t) (eqs z)) ⟨ho, fun y hy => ?_, ?_⟩
  · obtain ⟨a, b, rfl⟩ := mem_strs rv (by simpa using hy)
    exact eqAt_V (y := .str a) (x := .str z) ⟨b, rfl⟩ ⟨t, rfl⟩ rfl rfl
  · refine ⟨.int (ss.count z : Nat), H, I.tok _, ⟨s.toks, ?_⟩, q⟩
    rw [← count_strs rv]
/-! ### instructions as the laws draw them -/
def W7 : List Str := ["set", "copy", "add", "scale", "swap", "read", "write"]
theorem W7_noloop {w : Str} (h : w ∈ W7) : w ≠ "loop" := by
  have z : (W7.all fun w => !(w == ("loop" : Str))) = true := by decide
  have k := List.all_eq_true.mp z w h
  intro e
  subst e
  revert k
  decide
theorem W7_ok {w : Str} (h : w ∈ W7) : PyData.strOk w = true := by
  have z : (W7.all fun w => PyData.strOk w) = true := by decide +kernel
  exact List.all_eq_true.mp z w h
def GoodOp (p n : Int) (w : Str) (as : List Int) : Prop :=
  ((w = "set" ∨ w = "scale") ∧ ∃ x c, as = [x, c] ∧ 0 ≤ x ∧ x < n ∧ 0 ≤ c ∧ c < p) ∨
  ((w = "read" ∨ w = "write") ∧ ∃ x, as = [x] ∧ 0 ≤ x ∧ x < n) ∨
  ((w = "copy" ∨ w = "swap") ∧ ∃ x y, as = [x, y] ∧ 0 ≤ x ∧ x < n ∧ 0 ≤ y ∧ y < n ∧ x ≠ y) ∨
  (w = "add" ∧ ∃ x y c, as = [x, y, c] ∧ 0 ≤ x ∧ x < n ∧ 0 ≤ y ∧ y < n ∧ x ≠ y ∧ 1 ≤ c ∧ c < p)
theorem GoodOp.w7 {p n : Int} {w : Str} {as : List Int} (h : GoodOp p n w as) : w ∈ W7 := by
  rcases h with ⟨rfl | rfl, _⟩ | ⟨rfl | rfl, _⟩ | ⟨rfl | rfl, _⟩ | ⟨rfl, _⟩ <;> decide
mutual
/-- drawn: at most l instructions, loops at most d deep, half as many within; G: of the others, R: of the rounds -/
def Tr.made (G : Str → List Int → Prop) (R : Int → Prop) : Tr → Nat → Nat → Prop
  | .op w as, _, _ => G w as
  | .loop _ _, _, 0 => False
  | .loop k b, l, d + 1 => R k ∧ b.length ≤ l / 2 ∧ mades G R b (l / 2) d
def mades (G : Str → List Int → Prop) (R : Int → Prop) : List Tr → Nat → Nat → Prop
  | [], _, _ => True
  | t :: r, l, d => t.made G R l d ∧ mades G R r l d
end
theorem mades_append {G : Str → List Int → Prop} {R : Int → Prop} : ∀ {b c : List Tr} {l d : Nat}, mades G R b l d → mades G R c l d → mades G R (b ++ c) l d
  | [], _, _, _, _, k => k
  | t :: r, c, l, d, h, k => by
    rw [mades] at h
    show mades G R (t :: (r ++ c)) l d
    rw [mades]
    exact ⟨h.1, mades_append h.2 k⟩
theorem mades_one {G : Str → List Int → Prop} {R : Int → Prop} {t : Tr} {l d : Nat} (h : t.made G R l d) : mades G R [t] l d := by
  rw [mades, mades]
  exact ⟨h, trivial⟩
theorem mades_nil {G : Str → List Int → Prop} {R : Int → Prop} {l d : Nat} : mades G R [] l d := by
  rw [mades]
  trivial
mutual
theorem Tr.made_wf {G : Str → List Int → Prop} {R : Int → Prop} (hG : ∀ w as, G w as → w ∈ W7) (hR : ∀ k, R k → 0 ≤ k ∧ k ≤ 10 ^ 18) : ∀ (t : Tr) (l d : Nat), l ≤ 1000 → t.made G R l d → t.wf d
  | .op w as, l, d, _, h => by
    rw [Tr.made] at h
    rw [Tr.wf]
    exact W7_noloop (hG w as h)
  | .loop k b, l, 0, _, h => by
    rw [Tr.made] at h
    exact h.elim
  | .loop k b, l, d + 1, hl, h => by
    rw [Tr.made] at h
    rw [Tr.wf]
    exact ⟨(hR k h.1).1, (hR k h.1).2, by omega, mades_wf hG hR b (l / 2) d (by omega) h.2.2⟩
theorem mades_wf {G : Str → List Int → Prop} {R : Int → Prop} (hG : ∀ w as, G w as → w ∈ W7) (hR : ∀ k, R k → 0 ≤ k ∧ k ≤ 10 ^ 18) : ∀ (b : List Tr) (l d : Nat), l ≤ 1000 → mades G R b l d → wfs b d
  | [], _, _, _, _ => by rw [wfs]; trivial
  | t :: r, l, d, hl, h => by
    rw [mades] at h
    rw [wfs]
    exact ⟨Tr.made_wf hG hR t l d hl h.1, mades_wf hG hR r l d hl h.2⟩
end
/-- the most steps that such a body executes, loops of at most 3 rounds -/
def most : Nat → Nat → Nat
  | 0, _ => 1
  | d + 1, l => max 1 (3 * ((l / 2) * most d (l / 2)))
mutual
theorem Tr.made_ex {G : Str → List Int → Prop} {R : Int → Prop} (hR : ∀ k, R k → 0 ≤ k ∧ k ≤ 3) : ∀ (t : Tr) (l d : Nat), t.made G R l d → t.ex.length ≤ most d l
  | .op w as, l, 0, h => by rw [Tr.ex, most]; exact Nat.le_refl 1
  | .op w as, l, d + 1, h => by rw [Tr.ex, most]; exact Nat.le_max_left _ _
  | .loop k b, l, 0, h => by
    rw [Tr.made] at h
    exact h.elim
  | .loop k b, l, d + 1, h => by
    rw [Tr.made] at h
    have ih := mades_ex hR b (l / 2) d h.2.2
    have hk := hR k h.1
    rw [Tr.ex, most, List.length_flatten, List.map_replicate, List.sum_replicate_nat]
    refine Nat.le_trans ?_ (Nat.le_max_right _ _)
    have h1 : (exs b).length ≤ l / 2 * most d (l / 2) := Nat.le_trans ih (Nat.mul_le_mul_right _ h.2.1)
    exact Nat.mul_le_mul (by omega) h1
theorem mades_ex {G : Str → List Int → Prop} {R : Int → Prop} (hR : ∀ k, R k → 0 ≤ k ∧ k ≤ 3) : ∀ (b : List Tr) (l d : Nat), mades G R b l d → (exs b).length ≤ b.length * most d l
  | [], _, _, _ => by rw [exs]; exact Nat.zero_le _
  | t :: r, l, d, h => by
    rw [mades] at h
    have h1 := Tr.made_ex hR t l d h.1
    have h2 := mades_ex hR r l d h.2
    rw [exs, List.length_append, List.length_cons, Nat.succ_mul]
    omega
end
/-! ### what is executed: numbers -/
theorem flat_len {α : Type} (n : Nat) (xs : List α) : ((List.replicate n xs).flatten).length = n * xs.length := by
  rw [List.length_flatten, List.map_replicate, List.sum_replicate_nat]
mutual
theorem Tr.ex_len : ∀ (t : Tr) (d : Nat), t.wf d → (t.ex.length : Int) = t.len
  | .op w as, _, _ => by rw [Tr.ex, Tr.len]; rfl
  | .loop k b, 0, h => by rw [Tr.wf] at h; exact h.elim
  | .loop k b, d + 1, h => by
    rw [Tr.wf] at h
    have ih := exs_len b d h.2.2.2
    rw [Tr.ex, Tr.len, flat_len, ← ih, Int.natCast_mul]
    congr 1
    omega
theorem exs_len : ∀ (b : List Tr) (d : Nat), wfs b d → ((exs b).length : Int) = lens b
  | [], _, _ => by rw [exs, lens]; rfl
  | t :: r, d, h => by
    rw [wfs] at h
    rw [exs, lens, List.length_append, Int.natCast_add, Tr.ex_len t d h.1, exs_len r d h.2]
end
/-- the word of an instruction -/
def Tr.word : Tr → Str
  | .op w _ => w
  | .loop _ _ => "loop"
theorem count_flat (z : Str) (xs : List Tr) : ∀ n : Nat, (((List.replicate n xs).flatten).map Tr.word).count z = n * (xs.map Tr.word).count z
  | 0 => by simp
  | n + 1 => by rw [List.replicate_succ, List.flatten_cons, List.map_append, List.count_append, count_flat z xs n, Nat.succ_mul, Nat.add_comm]
mutual
theorem Tr.ex_cnt (z : Str) : ∀ (t : Tr) (d : Nat), t.wf d → (((t.ex.map Tr.word).count z : Nat) : Int) = t.cnt z
  | .op w as, _, _ => by
    rw [Tr.ex, Tr.cnt]
    show (([w].count z : Nat) : Int) = _
    rw [List.count_singleton]
    by_cases e : w = z
    · rw [if_pos e, if_pos (beq_iff_eq.mpr e)]
      rfl
    · rw [if_neg e, if_neg (fun h => e (beq_iff_eq.mp h))]
      rfl
  | .loop k b, 0, h => by rw [Tr.wf] at h; exact h.elim
  | .loop k b, d + 1, h => by
    rw [Tr.wf] at h
    have ih := exs_cnt z b d h.2.2.2
    rw [Tr.ex, Tr.cnt, count_flat, ← ih, Int.natCast_mul]
    congr 1
    omega
theorem exs_cnt (z : Str) : ∀ (b : List Tr) (d : Nat), wfs b d → ((((exs b).map Tr.word).count z : Nat) : Int) = cnts z b
  | [], _, _ => by rw [exs, cnts]; rfl
  | t :: r, d, h => by
    rw [wfs] at h
    rw [exs, cnts, List.map_append, List.count_append, Int.natCast_add, Tr.ex_cnt z t d h.1, exs_cnt z r d h.2]
end
/-- all are no loops -/
def Ops (b : List Tr) : Prop := ∀ t ∈ b, ∃ w as, t = .op w as ∧ w ∈ W7
mutual
theorem Tr.ex_ops {G : Str → List Int → Prop} {R : Int → Prop} (hG : ∀ w as, G w as → w ∈ W7) : ∀ (t : Tr) (l d : Nat), t.made G R l d → Ops t.ex
  | .op w as, l, d, h => by
    rw [Tr.made] at h
    rw [Tr.ex]
    intro t m
    exact ⟨w, as, List.mem_singleton.mp m, hG w as h⟩
  | .loop k b, l, 0, h => by rw [Tr.made] at h; exact h.elim
  | .loop k b, l, d + 1, h => by
    rw [Tr.made] at h
    rw [Tr.ex]
    intro t m
    obtain ⟨xs, m1, m2⟩ := List.mem_flatten.mp m
    rw [(List.mem_replicate.mp m1).2] at m2
    exact exs_ops hG b (l / 2) d h.2.2 t m2
theorem exs_ops {G : Str → List Int → Prop} {R : Int → Prop} (hG : ∀ w as, G w as → w ∈ W7) : ∀ (b : List Tr) (l d : Nat), mades G R b l d → Ops (exs b)
  | [], _, _, _ => by rw [exs]; intro t m; cases m
  | t :: r, l, d, h => by
    rw [mades] at h
    rw [exs]
    intro u m
    rcases List.mem_append.mp m with m | m
    · exact Tr.ex_ops hG t l d h.1 u m
    · exact exs_ops hG r l d h.2 u m
end
/-! ### data of instructions -/
def Tr.dat : Tr → PyData
  | .op w as => .tuple (.str w :: as.map .int)
  | .loop _ _ => .none
theorem dp_ints {K : PySem.W.Frag} {H : Hp} : ∀ as : List Int, DpAll K H (as.map V.int) (as.map PyData.int)
  | [] => .nil
  | a :: r => .cons (.int a) (dp_ints r)
theorem lay_ints : ∀ as : List Int, PyData.canLayAll0 (as.map PyData.int) = true
  | [] => by rw [List.map_nil, PyData.canLayAll0]
  | a :: r => by rw [List.map_cons, PyData.canLayAll0, PyData.canLay0, lay_ints r]; rfl
theorem depth_ints : ∀ as : List Int, PyData.depthAll (as.map PyData.int) = 0
  | [] => by rw [List.map_nil, PyData.depthAll]
  | a :: r => by rw [List.map_cons, PyData.depthAll, PyData.depth, depth_ints r]; rfl
theorem Ops.dp {K : PySem.W.Frag} {H : Hp} : ∀ {b : List Tr} {vs : List V}, Ops b → TrsAt K H b vs → DpAll K H vs (b.map Tr.dat)
  | [], vs, _, h => by
    rw [TrsAt] at h
    rw [h]
    exact .nil
  | t :: r, vs, o, h => by
    rw [TrsAt] at h
    obtain ⟨v, us, rfl, a, k⟩ := h
    obtain ⟨w, as, rfl, _⟩ := o t List.mem_cons_self
    rw [TrAt] at a
    obtain ⟨x, rfl, sq⟩ := a
    exact .cons (.tup sq (.cons (.str w) (dp_ints as))) (Ops.dp (fun u m => o u (List.mem_cons_of_mem _ m)) k)
theorem Ops.lay : ∀ {b : List Tr}, Ops b → PyData.canLayAll0 (b.map Tr.dat) = true
  | [], _ => by rw [List.map_nil, PyData.canLayAll0]
  | t :: r, o => by
    obtain ⟨w, as, rfl, hw⟩ := o t List.mem_cons_self
    rw [List.map_cons, PyData.canLayAll0, Ops.lay (fun u m => o u (List.mem_cons_of_mem _ m)), Tr.dat, PyData.canLay0, PyData.canLayAll0, PyData.canLay0, W7_ok hw, lay_ints]
    rfl
theorem Ops.deep : ∀ {b : List Tr}, Ops b → PyData.depthAll (b.map Tr.dat) ≤ 1
  | [], _ => by rw [List.map_nil, PyData.depthAll]; exact Nat.zero_le _
  | t :: r, o => by
    obtain ⟨w, as, rfl, hw⟩ := o t List.mem_cons_self
    have ih := Ops.deep (b := r) (fun u m => o u (List.mem_cons_of_mem _ m))
    rw [List.map_cons, PyData.depthAll, Tr.dat, PyData.depth, PyData.depthAll, PyData.depth, depth_ints]
    omega
theorem Ops.shaped {b : List Tr} (o : Ops b) : SeqAt.shaped (.list (b.map Tr.dat)) = true := by
  unfold SeqAt.shaped
  rw [PyData.canLay0, o.lay, PyData.depth, decide_eq_true (by have := o.deep; omega)]
  rfl
theorem shaped_nil : SeqAt.shaped (.list []) = true := by decide
theorem eqv_nil : ∀ b : List PyData, PyData.eqv (.list b) (.list []) = b.isEmpty
  | [] => by rw [PyData.eqv, PyData.eqvAll]; rfl
  | a :: r => by rw [PyData.eqv, PyData.eqvAll]; rfl
theorem inV2 {w a b : Str} : inV (.str w) [.str a, .str b] = true ↔ (w = a ∨ w = b) := by
  show (a == w || (b == w || false)) = true ↔ _
  rw [Bool.or_false, Bool.or_eq_true, beq_iff_eq, beq_iff_eq]
  constructor
  · rintro (h | h)
    · exact .inl h.symm
    · exact .inr h.symm
  · rintro (h | h)
    · exact .inl h.symm
    · exact .inr h.symm
/-! ### promises of the law's own defs -/
def W9 : List Str := ["set", "copy", "copy", "add", "add", "scale", "swap", "read", "write"]
theorem W9_in : ∀ x ∈ W9, x ∈ W7 := by
  have z : (W9.all fun x => W7.contains x) = true := by decide
  intro x m
  exact List.contains_iff_mem.mp (List.all_eq_true.mp z x m)
def spWords : Sp := fun vs H Q _ => vs = [] ∧ ∀ p, H p = none → Q (.ref p) (upd H p (.lst (W9.map V.str)))
def spItem (K : PySem.W.Frag) : Sp := fun vs H Q _ => ∃ (u ws : Addr) (p n : Int) (wl : List Str), vs = [.ref u, .int p, .int n, .ref ws] ∧ Urn H u ∧ 2 ≤ p ∧ p ≤ 10007 ∧ 1 ≤ n ∧ n ≤ 8 ∧ ws ≠ u ∧ SqL K H ws (wl.map V.str) ∧ wl ≠ [] ∧ wl.length ≤ 1000 ∧ (∀ x ∈ wl, x ∈ W7) ∧
  ∀ w as v H', GoodOp p n w as → (w ∈ wl ∨ w = "set") → TrAt K H' (.op w as) v → Urn H' u → But u H H' → Q v H'
def spBody (K : PySem.W.Frag) (d : Nat) : Sp := fun vs H Q _ => ∃ (u ws rs : Addr) (p n : Int) (wl : List Str) (rl : List Int) (l e : Nat), vs = [.ref u, .int p, .int n, .ref ws, .int (l : Int), .int (e : Int), .ref rs] ∧ Urn H u ∧ 2 ≤ p ∧ p ≤ 10007 ∧ 1 ≤ n ∧ n ≤ 8 ∧ ws ≠ u ∧ SqL K H ws (wl.map V.str) ∧ wl ≠ [] ∧ wl.length ≤ 1000 ∧ (∀ x ∈ wl, x ∈ W7) ∧
  rs ≠ u ∧ SqL K H rs (rl.map V.int) ∧ rl ≠ [] ∧ rl.length ≤ 1000 ∧ l ≤ 1000 ∧ e < d ∧
  ∀ b v H', b.length ≤ l → mades (fun w as => GoodOp p n w as ∧ (w ∈ wl ∨ w = "set")) (fun k => k ∈ rl) b l e → BodyAt K H' b v → Urn H' u → But u H H' → Q v H'
mutual
/-- every body within executes a bounded number of steps -/
def Tr.fine : Tr → Prop
  | .op w _ => w ∈ W7
  | .loop _ b => (exs b).length ≤ 100000 ∧ fines b
def fines : List Tr → Prop
  | [] => True
  | t :: r => t.fine ∧ fines r
end
theorem fines_get : ∀ {b : List Tr} {i : Nat} {t : Tr}, fines b → b[i]? = some t → t.fine
  | [], _, _, _, e => by simp at e
  | t :: r, 0, u, h, e => by
    cases e
    rw [fines] at h
    exact h.1
  | t :: r, i + 1, u, h, e => by
    rw [fines] at h
    exact fines_get (i := i) h.2 e
mutual
theorem Tr.fine_ops : ∀ t : Tr, t.fine → Ops t.ex
  | .op w as, h => by
    rw [Tr.fine] at h
    rw [Tr.ex]
    intro t m
    exact ⟨w, as, List.mem_singleton.mp m, h⟩
  | .loop k b, h => by
    rw [Tr.fine] at h
    rw [Tr.ex]
    intro t m
    obtain ⟨xs, m1, m2⟩ := List.mem_flatten.mp m
    rw [(List.mem_replicate.mp m1).2] at m2
    exact fines_ops b h.2 t m2
theorem fines_ops : ∀ b : List Tr, fines b → Ops (exs b)
  | [], _ => by rw [exs]; intro t m; cases m
  | t :: r, h => by
    rw [fines] at h
    rw [exs]
    intro u m
    rcases List.mem_append.mp m with m | m
    · exact Tr.fine_ops t h.1 u m
    · exact fines_ops r h.2 u m
end
theorem most0 : ∀ d, most d 0 = 1
  | 0 => rfl
  | d + 1 => by
    rw [most]
    show max 1 (3 * (0 * _)) = 1
    rw [Nat.zero_mul]
    rfl
theorem most_pos : ∀ d l, 1 ≤ most d l
  | 0, _ => Nat.le_refl 1
  | d + 1, l => by rw [most]; exact Nat.le_max_left _ _
mutual
theorem Tr.made_fine {G : Str → List Int → Prop} {R : Int → Prop} (hG : ∀ w as, G w as → w ∈ W7) (hR : ∀ k, R k → 0 ≤ k ∧ k ≤ 3) : ∀ (t : Tr) (l d : Nat), max 1 l * most d l ≤ 100000 → t.made G R l d → t.fine
  | .op w as, l, d, _, h => by
    rw [Tr.made] at h
    rw [Tr.fine]
    exact hG w as h
  | .loop k b, l, 0, _, h => by rw [Tr.made] at h; exact h.elim
  | .loop k b, l, d + 1, hb, h => by
    rw [Tr.made] at h
    rw [Tr.fine]
    have h1 : 3 * (l / 2 * most d (l / 2)) ≤ 100000 := by
      have h0 : most (d + 1) l ≤ 100000 := Nat.le_trans (Nat.le_mul_of_pos_left _ (by omega)) hb
      rw [most] at h0
      exact Nat.le_trans (Nat.le_max_right _ _) h0
    have h2 := mades_ex hR b (l / 2) d h.2.2
    have h3 : b.length * most d (l / 2) ≤ l / 2 * most d (l / 2) := Nat.mul_le_mul_right _ h.2.1
    refine ⟨by omega, mades_fine hG hR b (l / 2) d ?_ h.2.2⟩
    by_cases z : l / 2 = 0
    · rw [z, most0]
      decide
    · rw [show max 1 (l / 2) = l / 2 by omega]
      omega
theorem mades_fine {G : Str → List Int → Prop} {R : Int → Prop} (hG : ∀ w as, G w as → w ∈ W7) (hR : ∀ k, R k → 0 ≤ k ∧ k ≤ 3) : ∀ (b : List Tr) (l d : Nat), max 1 l * most d l ≤ 100000 → mades G R b l d → fines b
  | [], _, _, _, _ => by rw [fines]; trivial
  | t :: r, l, d, hl, h => by
    rw [mades] at h
    rw [fines]
    exact ⟨Tr.made_fine hG hR t l d hl h.1, mades_fine hG hR r l d hl h.2⟩
end
theorem mades_big {G : Str → List Int → Prop} {R : Int → Prop} (hR : ∀ k, R k → 0 ≤ k ∧ k ≤ 3) {b : List Tr} {l d : Nat} (hl : b.length ≤ l) (hm : max 1 l * most d l ≤ 100000) (h : mades G R b l d) : (exs b).length ≤ 100000 := by
  have h1 := mades_ex hR b l d h
  have h2 : b.length * most d l ≤ max 1 l * most d l := Nat.mul_le_mul_right _ (by omega)
  omega
theorem most84 : max 1 8 * most 4 8 ≤ 100000 := by decide
def spExec (K : PySem.W.Frag) (d : Nat) : Sp := fun vs H Q _ => ∃ v b, vs = [v] ∧ BodyAt K H b v ∧ okB d b ∧ fines b ∧ (exs b).length ≤ 100000 ∧
  ∀ H' l us, Same H H' → H l = none → H' l = some (.lst us) → TrsAt K H' (exs b) us → Q (.ref l) H'
end Lj
set_option Elab.async false
set_option linter.all false
set_option maxRecDepth 100000
namespace Lj
open PySem PySem.Spec PyProof.Rows L2
theorem iteNN {c A B : Prop} [Decidable c] (h : ¬ c) (a : A) : if (!decide c) = true then A else B := by
  rw [decide_eq_false h]
  exact a
/-! ### repr of lists of numbers -/
/-- a number, None, a truth value, shown in a few signs -/
def Leaf (d : PyData) : Prop := d.showable = true ∧ d.hasDict = false ∧ d.depth = 0 ∧ d.shown.length ≤ 1921
theorem leaf_int {i : Int} (h : i.natAbs.log2 < 1920) : Leaf (.int i) := ⟨by rw [PyData.showable]; exact decide_eq_true h, by rw [PyData.hasDict], by rw [PyData.depth], by rw [PyData.shown]; exact int_text_len_1921 h⟩
theorem leaf_none : Leaf .none := ⟨by rw [PyData.showable], by rw [PyData.hasDict], by rw [PyData.depth], by rw [PyData.shown]; decide⟩
theorem leaf_all : ∀ {ds : List PyData}, (∀ d ∈ ds, Leaf d) → PyData.showableAll ds = true ∧ PyData.hasDictAll ds = false ∧ PyData.depthAll ds = 0 ∧ ((PyData.shownAll ds).map (·.length)).sum ≤ 1921 * ds.length ∧ (PyData.shownAll ds).length = ds.length
  | [], _ => ⟨by rw [PyData.showableAll], by rw [PyData.hasDictAll], by rw [PyData.depthAll], by rw [PyData.shownAll]; exact Nat.zero_le _, by rw [PyData.shownAll]; rfl⟩
  | d :: r, h => by
    obtain ⟨a1, a2, a3, a4⟩ := h d List.mem_cons_self
    obtain ⟨b1, b2, b3, b4, b5⟩ := leaf_all (ds := r) fun x m => h x (List.mem_cons_of_mem _ m)
    refine ⟨by rw [PyData.showableAll, a1, b1]; rfl, by rw [PyData.hasDictAll, a2, b2]; rfl, by rw [PyData.depthAll, a3, b3]; rfl, ?_, by rw [PyData.shownAll, List.length_cons, b5, List.length_cons]⟩
    rw [PyData.shownAll, List.map_cons, List.sum_cons, List.length_cons]
    omega
theorem leaf_list {ds : List PyData} (h : ∀ d ∈ ds, Leaf d) (n : ds.length ≤ 8000) : (PyData.list ds).showable = true ∧ (PyData.list ds).hasDict = false ∧ (PyData.list ds).depth ≤ 64 ∧ (PyData.list ds).shown.length ≤ sizeLine := by
  obtain ⟨b1, b2, b3, b4, b5⟩ := leaf_all h
  refine ⟨by rw [PyData.showable]; exact b1, by rw [PyData.hasDict]; exact b2, by rw [PyData.depth, b3]; decide, ?_⟩
  rw [PyData.shown, sizeLine_eq]
  have := PySem.listText_len_le (PyData.shownAll ds)
  omega
theorem dp_int_list {K : PySem.W.Frag} {H : Hp} {a : Addr} {ns : List Int} (h : SqL K H a (ns.map V.int)) : Dp K H (.ref a) (.list (ns.map PyData.int)) := .lst h (dp_ints ns)
theorem log_of {i : Int} {k : Nat} (h : i.natAbs < 2 ^ k) (k0 : 0 < k) (k1 : k ≤ 1920) : i.natAbs.log2 < 1920 := Nat.lt_of_lt_of_le (PySem.Flt.log2_lt_of k0 h) k1
theorem leaf_ints {ns : List Int} (h : ∀ n ∈ ns, n.natAbs < 2 ^ 1000) : ∀ d ∈ ns.map PyData.int, Leaf d := by
  intro d m
  obtain ⟨n, hn, rfl⟩ := List.mem_map.mp m
  exact leaf_int (log_of (h n hn) (by decide) (by decide))
/-! ### bounds -/
def top : Nat → Int
  | 0 => 1
  | d + 1 => 10 ^ 18 * (1000 * top d)
theorem top_pos : ∀ d, 1 ≤ top d
  | 0 => by decide
  | d + 1 => by
    have := top_pos d
    rw [top]
    omega
mutual
theorem Tr.len_bd : ∀ (t : Tr) (d : Nat), t.wf d → 0 ≤ t.len ∧ t.len ≤ top d
  | .op w as, d, _ => by
    rw [Tr.len]
    exact ⟨by decide, top_pos d⟩
  | .loop k b, 0, h => by rw [Tr.wf] at h; exact h.elim
  | .loop k b, d + 1, h => by
    rw [Tr.wf] at h
    obtain ⟨i0, i1⟩ := lens_bd b d h.2.2.2
    have tp := top_pos d
    have i2 : lens b ≤ 1000 * top d := Int.le_trans i1 (Int.mul_le_mul_of_nonneg_right (by omega) (by omega))
    rw [Tr.len, top]
    exact ⟨Int.mul_nonneg h.1 i0, Int.mul_le_mul h.2.1 i2 i0 (by decide)⟩
theorem lens_bd : ∀ (b : List Tr) (d : Nat), wfs b d → 0 ≤ lens b ∧ lens b ≤ (b.length : Int) * top d
  | [], d, _ => by rw [lens]; exact ⟨by decide, by simp⟩
  | t :: r, d, h => by
    rw [wfs] at h
    obtain ⟨a0, a1⟩ := Tr.len_bd t d h.1
    obtain ⟨b0, b1⟩ := lens_bd r d h.2
    rw [lens, List.length_cons]
    refine ⟨by omega, ?_⟩
    rw [show ((r.length + 1 : Nat) : Int) = (r.length : Int) + 1 from rfl, Int.add_mul, Int.one_mul]
    omega
end
mutual
theorem Tr.cnt_bd (z : Str) : ∀ (t : Tr) (d : Nat), t.wf d → 0 ≤ t.cnt z ∧ t.cnt z ≤ t.len
  | .op w as, d, _ => by
    rw [Tr.len, Tr.cnt]
    split <;> exact ⟨by decide, by decide⟩
  | .loop k b, 0, h => by rw [Tr.wf] at h; exact h.elim
  | .loop k b, d + 1, h => by
    rw [Tr.wf] at h
    obtain ⟨i0, i1⟩ := cnts_bd z b d h.2.2.2
    rw [Tr.len, Tr.cnt]
    exact ⟨Int.mul_nonneg h.1 i0, Int.mul_le_mul_of_nonneg_left i1 h.1⟩
theorem cnts_bd (z : Str) : ∀ (b : List Tr) (d : Nat), wfs b d → 0 ≤ cnts z b ∧ cnts z b ≤ lens b
  | [], d, _ => by rw [lens, cnts]; exact ⟨by decide, by decide⟩
  | t :: r, d, h => by
    rw [wfs] at h
    obtain ⟨a0, a1⟩ := Tr.cnt_bd z t d h.1
    obtain ⟨b0, b1⟩ := cnts_bd z r d h.2
    rw [lens, cnts]
    omega
end
mutual
theorem Tr.inn_bd : ∀ (t : Tr) (d : Nat), t.wf d → 0 ≤ t.inn ∧ t.inn ≤ top d
  | .op w as, d, _ => by
    rw [Tr.inn]
    have := top_pos d
    omega
  | .loop k b, 0, h => by rw [Tr.wf] at h; exact h.elim
  | .loop k b, d + 1, h => by
    rw [Tr.wf] at h
    obtain ⟨i0, i1⟩ := inns_bd b d h.2.2.2
    have tp := top_pos d
    have i2 : inns b ≤ 1000 * top d := Int.le_trans i1 (Int.mul_le_mul_of_nonneg_right (by omega) (by omega))
    rw [Tr.inn, top]
    omega
theorem inns_bd : ∀ (b : List Tr) (d : Nat), wfs b d → 0 ≤ inns b ∧ inns b ≤ (b.length : Int) * top d
  | [], d, _ => by rw [inns]; exact ⟨by decide, by simp⟩
  | t :: r, d, h => by
    rw [wfs] at h
    obtain ⟨a0, a1⟩ := Tr.inn_bd t d h.1
    obtain ⟨b0, b1⟩ := inns_bd r d h.2
    rw [inns, List.length_cons]
    refine ⟨by omega, ?_⟩
    rw [show ((r.length + 1 : Nat) : Int) = (r.length : Int) + 1 from rfl, Int.add_mul, Int.one_mul]
    omega
end
mutual
theorem Tr.dep_bd : ∀ (t : Tr) (d : Nat), t.wf d → t.dep ≤ d
  | .op w as, d, _ => by rw [Tr.dep]; omega
  | .loop k b, 0, h => by rw [Tr.wf] at h; exact h.elim
  | .loop k b, d + 1, h => by
    rw [Tr.wf] at h
    have := deps_bd b d h.2.2.2
    rw [Tr.dep]
    omega
theorem deps_bd : ∀ (b : List Tr) (d : Nat), wfs b d → deps b ≤ d
  | [], d, _ => by rw [deps]; omega
  | t :: r, d, h => by
    rw [wfs] at h
    have h1 := Tr.dep_bd t d h.1
    have h2 := deps_bd r d h.2
    rw [deps]
    split <;> omega
end
theorem lens_log {b : List Tr} {d : Nat} (h : okB (d + 1) b) (hd : d ≤ 6) : (lens b).natAbs < 2 ^ 1000 := by
  obtain ⟨h0, h1⟩ := lens_bd b d h.1
  have tp := top_pos d
  have h2 : lens b ≤ 1000 * top d := Int.le_trans h1 (Int.mul_le_mul_of_nonneg_right (by have := h.2; omega) (by omega))
  have h3 : 1000 * top d < 2 ^ 1000 := by
    have : d = 0 ∨ d = 1 ∨ d = 2 ∨ d = 3 ∨ d = 4 ∨ d = 5 ∨ d = 6 := by omega
    rcases this with rfl | rfl | rfl | rfl | rfl | rfl | rfl <;> decide +kernel
  omega
/-! ### once, and with great rounds -/
mutual
def Tr.once : Tr → Tr
  | .op w as => .op w as
  | .loop _ b => .loop 1 (onces b)
def onces : List Tr → List Tr
  | [] => []
  | t :: r => t.once :: onces r
end
theorem onces_map : ∀ b : List Tr, onces b = b.map Tr.once
  | [] => by rw [onces]; rfl
  | t :: r => by rw [onces, onces_map r]; rfl
mutual
theorem Tr.made_once {G : Str → List Int → Prop} {R : Int → Prop} : ∀ (t : Tr) (l d : Nat), t.made G R l d → t.once.made G (fun k => k = 1) l d
  | .op w as, l, d, h => by
    rw [Tr.made] at h
    rw [Tr.once, Tr.made]
    exact h
  | .loop k b, l, 0, h => by rw [Tr.made] at h; exact h.elim
  | .loop k b, l, d + 1, h => by
    rw [Tr.made] at h
    rw [Tr.once, Tr.made]
    exact ⟨rfl, by rw [onces_map, List.length_map]; exact h.2.1, mades_once b (l / 2) d h.2.2⟩
theorem mades_once {G : Str → List Int → Prop} {R : Int → Prop} : ∀ (b : List Tr) (l d : Nat), mades G R b l d → mades G (fun k => k = 1) (onces b) l d
  | [], l, d, _ => by rw [onces]; exact mades_nil
  | t :: r, l, d, h => by
    rw [mades] at h
    rw [onces, mades]
    exact ⟨Tr.made_once t l d h.1, mades_once r l d h.2⟩
end
/-- no step of the word z, were each loop executed once -/
def NoW (z : Str) (b : List Tr) : Prop := z ∉ (exs (onces b)).map Tr.word
mutual
theorem Tr.noW (z : Str) : ∀ t : Tr, z ∉ (t.once.ex).map Tr.word → t.cnt z = 0
  | .op w as, h => by
    rw [Tr.once, Tr.ex] at h
    rw [Tr.cnt, if_neg]
    intro e
    exact h (by subst e; exact List.mem_singleton.mpr rfl)
  | .loop k b, h => by
    rw [Tr.once, Tr.ex] at h
    rw [Tr.cnt, noWs z b (by
      intro m
      refine h ?_
      show z ∈ (List.flatten [exs (onces b)]).map Tr.word
      rw [List.flatten_cons, List.flatten_nil, List.append_nil]
      exact m), Int.mul_zero]
theorem noWs (z : Str) : ∀ b : List Tr, NoW z b → cnts z b = 0
  | [], _ => by rw [cnts]
  | t :: r, h => by
    unfold NoW at h
    rw [onces, exs, List.map_append, List.mem_append] at h
    rw [cnts, Tr.noW z t (fun m => h (.inl m)), noWs z r (fun m => h (.inr m))]
    rfl
end
mutual
/-- the same but for rounds, and these only where nothing is read or written -/
def Tr.gr : Tr → Tr → Prop
  | .op w as, t => t = .op w as
  | .loop k b, t => ∃ k' b', t = .loop k' b' ∧ 0 ≤ k' ∧ k' ≤ 10 ^ 18 ∧ grs b b' ∧ (k' = k ∨ (NoW "read" b' ∧ NoW "write" b'))
def grs : List Tr → List Tr → Prop
  | [], g => g = []
  | t :: r, g => ∃ t' r', g = t' :: r' ∧ t.gr t' ∧ grs r r'
end
theorem grs_snoc : ∀ {b g : List Tr} {t t' : Tr}, grs b g → t.gr t' → grs (b ++ [t]) (g ++ [t'])
  | [], g, t, t', h, k => by
    rw [grs] at h
    rw [h]
    show grs [t] [t']
    rw [grs]
    exact ⟨t', [], rfl, k, by rw [grs]⟩
  | a :: r, g, t, t', h, k => by
    rw [grs] at h
    obtain ⟨a', r', rfl, h1, h2⟩ := h
    show grs (a :: (r ++ [t])) (a' :: (r' ++ [t']))
    rw [grs]
    exact ⟨a', _, rfl, h1, grs_snoc h2 k⟩
mutual
theorem Tr.gr_all : ∀ (t t' : Tr), t.gr t' → t'.once = t.once ∧ t'.inn = t.inn ∧ t'.dep = t.dep ∧ (∀ d, t.wf d → t'.wf d) ∧ (∀ G R l d, t.made G R l d → t'.made G (fun k => R k ∨ (0 ≤ k ∧ k ≤ 10 ^ 18)) l d) ∧ ((t.cnt "read" = t'.cnt "read") ∧ (t.cnt "write" = t'.cnt "write"))
  | .op w as, t', h => by
    rw [Tr.gr] at h
    subst h
    refine ⟨rfl, rfl, rfl, fun _ h => h, fun G R l d h => ?_, rfl, rfl⟩
    rw [Tr.made] at h ⊢
    exact h
  | .loop k b, t', h => by
    rw [Tr.gr] at h
    obtain ⟨k', b', rfl, k0, k1, hg, hk⟩ := h
    obtain ⟨e1, e2, e3, e4, e5, e6, e7⟩ := grs_all b b' hg
    refine ⟨by rw [Tr.once, Tr.once, e1], by rw [Tr.inn, Tr.inn, e2, e7.1], by rw [Tr.dep, Tr.dep, e3], fun d h => ?_, fun G R l d h => ?_, ?_⟩
    · cases d with
      | zero => rw [Tr.wf] at h; exact h.elim
      | succ d =>
        rw [Tr.wf] at h ⊢
        exact ⟨k0, k1, by rw [e7.1]; exact h.2.2.1, e4 d h.2.2.2⟩
    · cases d with
      | zero => rw [Tr.made] at h; exact h.elim
      | succ d =>
        rw [Tr.made] at h ⊢
        exact ⟨.inr ⟨k0, k1⟩, by rw [e7.1]; exact h.2.1, e5 G R _ _ h.2.2⟩
    · rw [Tr.cnt, Tr.cnt, Tr.cnt, Tr.cnt]
      rcases hk with rfl | ⟨n1, n2⟩
      · rw [e6.1, e6.2]
        exact ⟨rfl, rfl⟩
      · rw [e6.1, e6.2, noWs _ b' n1, noWs _ b' n2, Int.mul_zero, Int.mul_zero]
        exact ⟨rfl, rfl⟩
theorem grs_all : ∀ (b g : List Tr), grs b g → onces g = onces b ∧ inns g = inns b ∧ deps g = deps b ∧ (∀ d, wfs b d → wfs g d) ∧ (∀ G R l d, mades G R b l d → mades G (fun k => R k ∨ (0 ≤ k ∧ k ≤ 10 ^ 18)) g l d) ∧ ((cnts "read" b = cnts "read" g) ∧ (cnts "write" b = cnts "write" g)) ∧ (g.length = b.length ∧ True)
  | [], g, h => by
    rw [grs] at h
    subst h
    exact ⟨rfl, rfl, rfl, fun _ h => h, fun _ _ _ _ _ => mades_nil, ⟨rfl, rfl⟩, rfl, trivial⟩
  | t :: r, g, h => by
    rw [grs] at h
    obtain ⟨t', r', rfl, h1, h2⟩ := h
    obtain ⟨a1, a2, a3, a4, a5, a6⟩ := Tr.gr_all t t' h1
    obtain ⟨e1, e2, e3, e4, e5, e6, e7⟩ := grs_all r r' h2
    refine ⟨by rw [onces, onces, a1, e1], by rw [inns, inns, a2, e2], by rw [deps, deps, a3, e3], fun d h => ?_, fun G R l d h => ?_, ⟨by rw [cnts, cnts, a6.1, e6.1], by rw [cnts, cnts, a6.2, e6.2]⟩, by rw [List.length_cons, List.length_cons, e7.1], trivial⟩
    · rw [wfs] at h ⊢
      exact ⟨a4 d h.1, e4 d h.2⟩
    · rw [mades] at h ⊢
      exact ⟨a5 G R l d h.1, e5 G R l d h.2⟩
end
theorem shaped_ints (ns : List Int) : SeqAt.shaped (.list (ns.map PyData.int)) = true := by
  unfold SeqAt.shaped
  rw [PyData.canLay0, lay_ints, PyData.depth, depth_ints]
  rfl
theorem same_but {H H1 H2 : Hp} {u : Addr} (s : Same H H1) (n : H u = none) (b : But u H1 H2) : Same H H2 := fun x o e => b x o (ne_of_none e n) (s x o e)
/-- one parameter, given by its name -/
theorem kb1 {K : PySem.W.Frag} {x p : Str} {st : Stmt} {f : Addr} {fd : FuncData} (F : Fun K x x st f fd)
    (h : ∀ (kV doc pm : Value) (an : Option Addr) (cdv ct u : Value), bindArgs (PySem.W.fnOf x x (defArgs st) (defBody st) (defScope st) .none kV doc pm an cdv ct) ⟨[], [(p, u)]⟩ = pure [(p, u)]) :
    KBinds K fd [p] [p] (fun us ws => if us.isEmpty then ws else []) (fun us ws => if us.isEmpty then ws else []) := by
  obtain ⟨oc, od, kV, doc, pm, an, cdv, ct, osl, rfl, lk, hcd⟩ := F.ex
  refine ⟨fun s us ws _ hl => ?_, fun {vs us zs ws} r rz => ?_⟩
  · cases us with
    | cons u r =>
      rw [show (u :: r).isEmpty = false from rfl, if_neg Bool.false_ne_true] at hl
      cases hl
    | nil =>
      match ws, hl with
      | [_], _ => exact .of_eq (h ..)
  · cases r with
    | nil => exact rz
    | cons _ _ => exact .nil
end Lj
namespace Lj
mutual
theorem Tr.wf_up : ∀ (t : Tr) (n : Nat), t.wf n → t.wf (n + 1)
  | .op w as, n, h => by
    rw [Tr.wf] at h ⊢
    exact h
  | .loop k b, 0, h => by rw [Tr.wf] at h; exact h.elim
  | .loop k b, n + 1, h => by
    rw [Tr.wf] at h ⊢
    exact ⟨h.1, h.2.1, h.2.2.1, wfs_up' b n h.2.2.2⟩
theorem wfs_up' : ∀ (b : List Tr) (n : Nat), wfs b n → wfs b (n + 1)
  | [], n, _ => by rw [wfs]; trivial
  | t :: r, n, h => by
    rw [wfs] at h ⊢
    exact ⟨Tr.wf_up t n h.1, wfs_up' r n h.2⟩
end
theorem wfs_up {b : List Tr} {n : Nat} (h : wfs b n) : wfs b (n + 1) := wfs_up' b n h
end Lj
set_option Elab.async false
set_option linter.all false
set_option maxRecDepth 100000
set_option maxHeartbeats 1000000
namespace Lj
open PySem PySem.Spec PyProof.Rows L2
/-! ### zip of any two things that can be walked: each a feed -/
/-- an iterator at i with n things to give, as long as its source stands -/
structure Feed (i : Addr) (n : Nat) (f : Nat → Value → Prop) (St : Nat → Heap → Prop) (Src : Heap → Prop) : Prop where
  give : ∀ {prog : Program} {w : World} {A : Around} {E : Value → Shared → Prop} {s : Shared} {k : Nat} {Q : Value → Shared → Prop}, k < n → St k s.heap → Src s.heap → (∀ x h' tk, f k x → St (k + 1) h' → Heap.SameBut i s.heap h' → Q x { s with heap := h', toks := tk }) →
    wpAny (model prog w) A (Builtin.SmallTypes.nextOf (.ref i)) Q E s
  over : ∀ {prog : Program} {w : World} {A : Around} {E : Value → Shared → Prop} {s : Shared} {Q : Value → Shared → Prop}, A.handled = none → St n s.heap → Src s.heap → (∀ h' e tk, Heap.ExtBut i s.heap h' → (∃ o, h'.get? e = some o ∧ o.cls = .type "StopIteration") → E (.ref e) { s with heap := h', toks := tk }) →
    wpAny (model prog w) A (Builtin.SmallTypes.nextOf (.ref i)) Q E s
  stay : ∀ {k : Nat} {h h' : Heap}, St k h → (∀ o, h.get? i = some o → h'.get? i = some o) → St k h'
  obj : ∀ {k : Nat} {h : Heap}, St k h → ∃ o vs, h.get? i = some o ∧ o.data = .fields vs
theorem feed_list {i l : Addr} {its : Array Value} : Feed i its.size (fun k x => its[k]? = some x) (fun k h => h.IsListIter i l k) (fun h => h.IsList l its) where
  give := fun {_ _ _ _ s k _} hk st src q => wpAny_nextOf_list_item st src (Array.getElem?_eq_getElem hk) fun h' a b => q _ h' s.toks (Array.getElem?_eq_getElem hk) a b
  over := fun {_ _ _ _ s _} hh st src q => wpAny_nextOf_list_end hh st src (by simp) fun h' e a b => q h' e s.toks a b
  stay := fun ⟨o, e, r⟩ k => ⟨o, k o e, r⟩
  obj := fun ⟨o, e, _, d⟩ => ⟨o, _, e, d⟩
theorem feed_tup {i l : Addr} {its : Array Value} : Feed i its.size (fun k x => its[k]? = some x) (fun k h => h.IsTupleIter i l k) (fun h => h.IsTuple l its) where
  give := fun {_ _ _ _ s k _} hk st src q => RZ.nextOf_tuple_item st src (Array.getElem?_eq_getElem hk) fun h' a b => q _ h' s.toks (Array.getElem?_eq_getElem hk) a b
  over := fun {_ _ _ _ s _} hh st src q => RZ.nextOf_tuple_end hh st src (by simp) fun h' e a b => q h' e s.toks a b
  stay := fun ⟨o, e, r⟩ k => ⟨o, k o e, r⟩
  obj := fun ⟨o, e, _, d⟩ => ⟨o, _, e, d⟩
/-- the five objects of a zip are apart -/
structure Five (z I O a b : Addr) : Prop where
  Iz : I ≠ z
  Oz : O ≠ z
  az : a ≠ z
  bz : b ≠ z
  IO : I ≠ O
  Ia : I ≠ a
  Ib : I ≠ b
  Oa : O ≠ a
  Ob : O ≠ b
  ab : a ≠ b
/-- what a step of the zip leaves alone -/
def Beside (z O a b : Addr) (h h' : Heap) : Prop := ∀ c o, c ≠ z → c ≠ O → c ≠ a → c ≠ b → h.get? c = some o → h'.get? c = some o
section
variable {prog : Program} {w : World} {A : Around} {E : Value → Shared → Prop} {s : Shared} {z I O a b : Addr} {m n k : Nat} {f g : Nat → Value → Prop} {S1 S2 : Nat → Heap → Prop} {R1 R2 : Heap → Prop} {p q : Value}
theorem zf_give {Q : Value → Shared → Prop} (D : Five z I O a b) (F1 : Feed a m f S1 R1) (F2 : Feed b n g S2 R2) (r1 : ∀ h h', R1 h → Beside z O a b h h' → R1 h') (r2 : ∀ h h', R2 h → Beside z O a b h h' → R2 h')
    (zz : IsZip s.heap z I O .none) (zI : IsPair s.heap I (.ref a) (.ref b)) (zO : IsPair s.heap O p q) (s1 : S1 k s.heap) (s2 : S2 k s.heap) (q1 : R1 s.heap) (q2 : R2 s.heap) (km : k < m) (kn : k < n)
    (hQ : ∀ x y h' tk, f k x → g k y → IsZip h' z I O (rawInt s.heap.objs.size) → IsPair h' O x y → S1 (k + 1) h' → S2 (k + 1) h' → IsPair h' s.heap.objs.size x y → h'.objs.size = s.heap.objs.size + 1 → Beside z O a b s.heap h' → Q (.ref s.heap.objs.size) { s with heap := h', toks := tk }) :
    wpAny (model prog w) A (Builtin.«zip.__next__» ⟨[.ref z], []⟩) (fun fin s' => ∃ v, fin = .done (.ret v) ∧ Q v s') E s := by
  show wpAny _ _ (field (.ref z) 2 >>= _) _ _ _; refine wpAny_bind (wpAny_field zz rfl (x := .bool false) rfl ?_)
  show wpAny _ _ (field (.ref z) 3 >>= _) _ _ _; refine wpAny_bind (wpAny_field zz rfl (x := .ref I) rfl ?_)
  refine wpAny_bind (wpAny_seqItems zI rfl ?_)
  show wpAny _ _ (Builtin.SmallTypes.ownedTupleIsFree (.ref z) >>= _) _ _ _; refine wpAny_bind ?_
  unfold Builtin.SmallTypes.ownedTupleIsFree; refine wpAny_bind (wpAny_field zz rfl (x := .none) rfl (wpAny_pure ?_))
  simp only [if_true]; refine wpAny_bind (wpAny_rule (wpAny_bind (wpAny_field zz rfl (x := .ref O) rfl ?_)))
  refine wpAny_bind (wpAny_setField_rec zz (by simp) fun h1 z1 k1 => ?_)
  replace z1 : IsZip h1 z I O .ellipsis := z1
  refine wpAny_bind ?_
  simp only [List.zipIdx_cons, List.zipIdx_nil, List.forIn_cons, List.forIn_nil]; refine wpAny_bind (wpAny_bind (wpAny_onRaise ?_))
  show wpAny _ _ (Builtin.SmallTypes.nextOf (.ref a) >>= _) _ _ _
  have e1 : ∀ c o, c ≠ z → s.heap.get? c = some o → h1.get? c = some o := fun c o n e => k1.extBut _ _ n e
  refine wpAny_bind (F1.give km (F1.stay s1 fun o => e1 a o D.az) (r1 _ _ q1 fun c o n1 _ _ _ => e1 c o n1) fun x h2 t2 fx s12 k2 => wpAny_pure ?_)
  have e2 : ∀ c o, c ≠ a → h1.get? c = some o → h2.get? c = some o := fun c o n e => k2.extBut _ _ n e
  have O2 : IsPair h2 O p q := e2 _ _ D.Oa (e1 _ _ D.Oz zO)
  refine wpAny_bind (wpAny_seqItems O2 rfl (wpAny_bind (wpAny_updateSeq_pair O2 fun h3 O3 k3 => ?_)))
  replace O3 : IsPair h3 O x q := O3
  have e3 : ∀ c o, c ≠ O → h2.get? c = some o → h3.get? c = some o := fun c o n e => k3.extBut _ _ n e
  refine wpAny_bind (wpAny_letGo (wpAny_pure (wpAny_bind (wpAny_bind (wpAny_onRaise ?_)))))
  show wpAny _ _ (Builtin.SmallTypes.nextOf (.ref b) >>= _) _ _ _
  refine wpAny_bind (F2.give kn (F2.stay s2 fun o e => e3 b o D.Ob.symm (e2 b o D.ab.symm (e1 b o D.bz e))) (r2 _ _ q2 fun c o n1 n2 n3 _ e => e3 c o n2 (e2 c o n3 (e1 c o n1 e))) fun y h4 t4 gy s24 k4 => wpAny_pure ?_)
  have e4 : ∀ c o, c ≠ b → h3.get? c = some o → h4.get? c = some o := fun c o n e => k4.extBut _ _ n e
  have O4 : IsPair h4 O x q := e4 _ _ D.Ob O3
  refine wpAny_bind (wpAny_seqItems O4 rfl (wpAny_bind (wpAny_updateSeq_pair O4 fun h5 O5 k5 => ?_)))
  replace O5 : IsPair h5 O x y := O5
  have e5 : ∀ c o, c ≠ O → h4.get? c = some o → h5.get? c = some o := fun c o n e => k5.extBut _ _ n e
  refine wpAny_bind (wpAny_letGo (wpAny_pure (wpAny_pure (wpAny_bind (wpAny_seqItems O5 rfl (wpAny_bind (wpAny_newTuple ?_)))))))
  have sz : h5.objs.size = s.heap.objs.size := by rw [k5.1, k4.1, k3.1, k2.1, k1.1]
  have z5 : IsZip h5 z I O .ellipsis := e5 _ _ D.Oz.symm (e4 _ _ D.bz.symm (e3 _ _ D.Oz.symm (e2 _ _ D.az.symm z1)))
  have b5 : Beside z O a b s.heap h5 := fun c o n1 n2 n3 n4 e => e5 c o n2 (e4 c o n4 (e3 c o n2 (e2 c o n3 (e1 c o n1 e))))
  have s15 : S1 (k + 1) h5 := F1.stay s12 fun o e => e5 a o D.Oa.symm (e4 a o D.ab (e3 a o D.Oa.symm e))
  have s25 : S2 (k + 1) h5 := F2.stay s24 fun o e => e5 b o D.Ob.symm e
  have zl : z < h5.objs.size := Heap.lt_size z5
  show wpAny _ _ (Builtin.SmallTypes.ownedTupleHandOut (.ref z) (.ref h5.objs.size) >>= _) _ _ _
  refine wpAny_bind ?_; unfold Builtin.SmallTypes.ownedTupleHandOut
  refine wpAny_bind (wpAny_setField_rec (show IsZip (h5.push { cls := .type "tuple", data := .seq #[x, y] }) z I O .ellipsis from Heap.get?_push_of_some _ z5) (by simp) fun h7 z7 k7 => ?_)
  replace z7 : IsZip h7 z I O (rawInt h5.objs.size) := z7
  refine wpAny_setField_rec z7 (by simp) fun h8 z8 k8 => ?_
  replace z8 : IsZip h8 z I O (rawInt h5.objs.size) := z8
  have e8 : ∀ c o, c ≠ z → h5.get? c = some o → h8.get? c = some o := fun c o n e => k8.extBut _ _ n (k7.extBut _ _ n (Heap.get?_push_of_some _ e))
  have T8 : IsPair h8 h5.objs.size x y := k8.extBut _ _ (Nat.ne_of_gt zl) (k7.extBut _ _ (Nat.ne_of_gt zl) (Heap.get?_push_size _ rfl))
  have y8 : h8.objs.size = h5.objs.size + 1 := by rw [k8.1, k7.1, Heap.size_push]
  rw [sz] at z8 T8 y8
  refine wpAny_pure ⟨_, rfl, ?_⟩
  show Q (.ref h5.objs.size) _
  rw [sz]
  exact hQ x y h8 t4 fx gy z8 (e8 _ _ D.Oz O5) (F1.stay s15 fun o => e8 a o D.az) (F2.stay s25 fun o => e8 b o D.bz) T8 y8 fun c o n1 n2 n3 n4 e => e8 c o n1 (b5 c o n1 n2 n3 n4 e)
theorem zf_over {Q : Fin → Shared → Prop} (hh : A.handled = none) (D : Five z I O a b) (F1 : Feed a m f S1 R1) (F2 : Feed b n g S2 R2) (r1 : ∀ h h', R1 h → Beside z O a b h h' → R1 h') (r2 : ∀ h h', R2 h → Beside z O a b h h' → R2 h')
    (zz : IsZip s.heap z I O .none) (zI : IsPair s.heap I (.ref a) (.ref b)) (zO : IsPair s.heap O p q) (s1 : S1 k s.heap) (s2 : S2 k s.heap) (q1 : R1 s.heap) (q2 : R2 s.heap) (he : k = m ∨ (k < m ∧ k = n))
    (hE : ∀ h' e tk, Beside z O a b s.heap h' → (∃ o, h'.get? e = some o ∧ o.cls = .type "StopIteration") → E (.ref e) { s with heap := h', toks := tk }) :
    wpAny (model prog w) A (Builtin.«zip.__next__» ⟨[.ref z], []⟩) Q E s := by
  show wpAny _ _ (field (.ref z) 2 >>= _) _ _ _; refine wpAny_bind (wpAny_field zz rfl (x := .bool false) rfl ?_)
  show wpAny _ _ (field (.ref z) 3 >>= _) _ _ _; refine wpAny_bind (wpAny_field zz rfl (x := .ref I) rfl ?_)
  refine wpAny_bind (wpAny_seqItems zI rfl ?_)
  show wpAny _ _ (Builtin.SmallTypes.ownedTupleIsFree (.ref z) >>= _) _ _ _; refine wpAny_bind ?_
  unfold Builtin.SmallTypes.ownedTupleIsFree; refine wpAny_bind (wpAny_field zz rfl (x := .none) rfl (wpAny_pure ?_))
  simp only [if_true]; refine wpAny_bind (wpAny_rule (wpAny_bind (wpAny_field zz rfl (x := .ref O) rfl ?_)))
  refine wpAny_bind (wpAny_setField_rec zz (by simp) fun h1 z1 k1 => ?_)
  replace z1 : IsZip h1 z I O .ellipsis := z1
  refine wpAny_bind ?_
  simp only [List.zipIdx_cons, List.zipIdx_nil, List.forIn_cons, List.forIn_nil]; refine wpAny_bind (wpAny_bind (wpAny_onRaise ?_))
  show wpAny _ _ (Builtin.SmallTypes.nextOf (.ref a) >>= _) _ _ _
  have e1 : ∀ c o, c ≠ z → s.heap.get? c = some o → h1.get? c = some o := fun c o n e => k1.extBut _ _ n e
  have s11 := F1.stay s1 fun o => e1 a o D.az
  have q11 := r1 _ _ q1 fun c o n1 _ _ _ => e1 c o n1
  have fin : ∀ {h2 : Heap} {t2 : Nat} {e : Addr}, IsZip h2 z I O .ellipsis → Beside z O a b s.heap h2 → (∃ o, h2.get? e = some o ∧ o.cls = .type "StopIteration") → wpAny (model prog w) A (setField (.ref z) 0 .none) (fun _ s' => E (.ref e) s') E { s with heap := h2, toks := t2 } := fun {h2 t2 e} z2 b2 ⟨oe, g, c⟩ => by
    have ne : e ≠ z := fun y => by subst y; rw [z2] at g; cases g; simp at c
    exact wpAny_setField_rec z2 (by simp) fun h3 _ k3 => hE h3 e t2 (fun c o n1 n2 n3 n4 y => k3.extBut _ _ n1 (b2 c o n1 n2 n3 n4 y)) ⟨oe, k3.extBut _ _ ne g, c⟩
  rcases he with rfl | ⟨km, rfl⟩
  · refine wpAny_bind (F1.over hh s11 q11 fun h2 e t2 k2 ex => ?_)
    exact fin (k2 _ _ D.az.symm z1) (fun c o n1 _ n3 _ y => k2 _ _ n3 (e1 c o n1 y)) ex
  · refine wpAny_bind (F1.give km s11 q11 fun x h2 t2 fx s12 k2 => wpAny_pure ?_)
    have e2 : ∀ c o, c ≠ a → h1.get? c = some o → h2.get? c = some o := fun c o n e => k2.extBut _ _ n e
    have O2 : IsPair h2 O p q := e2 _ _ D.Oa (e1 _ _ D.Oz zO)
    refine wpAny_bind (wpAny_seqItems O2 rfl (wpAny_bind (wpAny_updateSeq_pair O2 fun h3 O3 k3 => ?_)))
    have e3 : ∀ c o, c ≠ O → h2.get? c = some o → h3.get? c = some o := fun c o n e => k3.extBut _ _ n e
    refine wpAny_bind (wpAny_letGo (wpAny_pure (wpAny_bind (wpAny_bind (wpAny_onRaise ?_)))))
    show wpAny _ _ (Builtin.SmallTypes.nextOf (.ref b) >>= _) _ _ _
    refine wpAny_bind (F2.over hh (F2.stay s2 fun o e => e3 b o D.Ob.symm (e2 b o D.ab.symm (e1 b o D.bz e))) (r2 _ _ q2 fun c o n1 n2 n3 _ e => e3 c o n2 (e2 c o n3 (e1 c o n1 e))) fun h4 e t4 k4 ex => ?_)
    exact fin (k4 _ _ D.bz.symm (e3 _ _ D.Oz.symm (e2 _ _ D.az.symm z1))) (fun c o n1 n2 n3 n4 y => k4 _ _ n4 (e3 c o n2 (e2 c o n3 (e1 c o n1 y)))) ex
theorem zf_next {Q : Option Value → Shared → Prop} (D : Five z I O a b) (F1 : Feed a m f S1 R1) (F2 : Feed b n g S2 R2) (r1 : ∀ h h', R1 h → Beside z O a b h h' → R1 h') (r2 : ∀ h h', R2 h → Beside z O a b h h' → R2 h')
    (zz : IsZip s.heap z I O .none) (zI : IsPair s.heap I (.ref a) (.ref b)) (zO : IsPair s.heap O p q) (s1 : S1 k s.heap) (s2 : S2 k s.heap) (q1 : R1 s.heap) (q2 : R2 s.heap) (km : k < m) (kn : k < n)
    (hQ : ∀ x y h' tk, f k x → g k y → IsZip h' z I O (rawInt s.heap.objs.size) → IsPair h' O x y → S1 (k + 1) h' → S2 (k + 1) h' → IsPair h' s.heap.objs.size x y → h'.objs.size = s.heap.objs.size + 1 → Beside z O a b s.heap h' → Q (some (.ref s.heap.objs.size)) { s with heap := h', toks := tk }) :
    wpAny (model prog w) A (pyNext (.ref z)) Q E s := by
  have ty : s.TypeIs (.ref z) "zip" := ⟨_, zz, rfl⟩
  unfold pyNext; refine wpAny_bind (wpAny_attempt (wpAny_callSpecial?_slot (name := Str.ofString "__next__") ty F.slot_zip_next (wpAny_call_entry F.slot_zip_next ty F.entry_zip_next (zf_give D F1 F2 r1 r2 zz zI zO s1 s2 q1 q2 km kn fun x y h' tk b1 b2 b3 b4 b5 b6 b7 b8 b9 => ?_) (F.args_zip_next_1 _))))
  exact wpAny_pure (hQ x y h' tk b1 b2 b3 b4 b5 b6 b7 b8 b9)
theorem zf_done {Q : Option Value → Shared → Prop} (hh : A.handled = none) (D : Five z I O a b) (F1 : Feed a m f S1 R1) (F2 : Feed b n g S2 R2) (r1 : ∀ h h', R1 h → Beside z O a b h h' → R1 h') (r2 : ∀ h h', R2 h → Beside z O a b h h' → R2 h')
    (zz : IsZip s.heap z I O .none) (zI : IsPair s.heap I (.ref a) (.ref b)) (zO : IsPair s.heap O p q) (s1 : S1 k s.heap) (s2 : S2 k s.heap) (q1 : R1 s.heap) (q2 : R2 s.heap) (he : k = m ∨ (k < m ∧ k = n))
    (hQ : ∀ h' tk, Beside z O a b s.heap h' → Q none { s with heap := h', toks := tk }) : wpAny (model prog w) A (pyNext (.ref z)) Q E s := by
  have ty : s.TypeIs (.ref z) "zip" := ⟨_, zz, rfl⟩
  unfold pyNext; refine wpAny_bind (wpAny_attempt (wpAny_callSpecial?_slot (name := Str.ofString "__next__") ty F.slot_zip_next (wpAny_call_entry F.slot_zip_next ty F.entry_zip_next (zf_over hh D F1 F2 r1 r2 zz zI zO s1 s2 q1 q2 he fun h' e tk k ⟨o, g, c⟩ => ?_) (F.args_zip_next_1 _))))
  exact wpAny_bind (wpAny_isInstance (T := "StopIteration") (b := true) ⟨o, g, c⟩ isSubtype_stop (wpAny_pure (hQ _ _ k)))
end
end Lj
set_option Elab.async false
set_option linter.all false
set_option maxRecDepth 100000
set_option maxHeartbeats 1000000
namespace Lj
open PySem PySem.Spec PyProof.Rows L2
/-- something that can be walked: St tells its iterator, G that it stands, ls where, xs what it gives -/
structure Sr (P : Program) (w : World) (K : PySem.W.Frag) (St : Addr → Nat → Heap → Prop) (G : Hp → Prop) (ls : List Addr) (xs : List V) : Prop where
  feed : ∀ {X : Cx} {pins : List (Addr × Obj)} {σ : L2.St} {H : Hp} {s : Shared}, X.prog = P → X.w = w → X.K = K → Inv X pins σ H s → G H → ∀ i : Addr, ∃ (f : Nat → Value → Prop) (Src : Heap → Prop), Feed i xs.length f (St i) Src ∧ Src s.heap ∧
    (∀ h h', Src h → (∀ l ∈ ls, ∀ o, h.get? l = some o → h'.get? l = some o) → Src h') ∧ ∀ k u, f k u → ∃ x, xs[k]? = some x ∧ RelV x u
  stay : ∀ {i : Addr} {k : Nat} {h h' : Heap}, St i k h → (∀ o, h.get? i = some o → h'.get? i = some o) → St i k h'
  obj : ∀ {i : Addr} {k : Nat} {h : Heap}, St i k h → ∃ o vs, h.get? i = some o ∧ o.data = .fields vs
theorem sr_list {P : Program} {w : World} {K : PySem.W.Frag} {a : Addr} {xs : List V} : Sr P w K (fun i k h => h.IsListIter i a k) (fun H => SqL K H a xs) [a] xs where
  feed := fun {X pins σ H s} e1 e2 e3 I g i => by
    subst e3
    obtain ⟨its, rv, pl, _⟩ := I.list g
    refine ⟨fun k x => its.toArray[k]? = some x, fun h => h.IsList a its.toArray, ?_, pl.isList, fun h h' q k => ?_, fun k u e => ?_⟩
    · have z := feed_list (i := i) (l := a) (its := its.toArray)
      rw [List.size_toArray, ← rv.length] at z
      exact z
    · obtain ⟨o, ho, r⟩ := q
      exact ⟨o, k a List.mem_cons_self o ho, r⟩
    · have e : its.toArray[k]? = some u := e
      rw [List.getElem?_toArray] at e
      have hk : k < xs.length := by rw [rv.length]; exact (List.getElem?_eq_some_iff.mp e).1
      obtain ⟨u', hu, ru⟩ := rv.get (List.getElem?_eq_getElem hk)
      rw [e] at hu
      cases hu
      exact ⟨_, List.getElem?_eq_getElem hk, ru⟩
  stay := fun ⟨o, e, r⟩ k => ⟨o, k o e, r⟩
  obj := fun ⟨o, e, _, d⟩ => ⟨o, _, e, d⟩
theorem sr_tup {P : Program} {w : World} {K : PySem.W.Frag} {a : Addr} {xs : List V} : Sr P w K (fun i k h => h.IsTupleIter i a k) (fun H => SqT K H a xs) [a] xs where
  feed := fun {X pins σ H s} e1 e2 e3 I g i => by
    subst e3
    obtain ⟨its, rv, pl, _⟩ := I.tuple g
    refine ⟨fun k x => its.toArray[k]? = some x, fun h => h.IsTuple a its.toArray, ?_, pl, fun h h' q k => ?_, fun k u e => ?_⟩
    · have z := feed_tup (i := i) (l := a) (its := its.toArray)
      rw [List.size_toArray, ← rv.length] at z
      exact z
    · obtain ⟨o, ho, r⟩ := q
      exact ⟨o, k a List.mem_cons_self o ho, r⟩
    · have e : its.toArray[k]? = some u := e
      rw [List.getElem?_toArray] at e
      have hk : k < xs.length := by rw [rv.length]; exact (List.getElem?_eq_some_iff.mp e).1
      obtain ⟨u', hu, ru⟩ := rv.get (List.getElem?_eq_getElem hk)
      rw [e] at hu
      cases hu
      exact ⟨_, List.getElem?_eq_getElem hk, ru⟩
  stay := fun ⟨o, e, r⟩ k => ⟨o, k o e, r⟩
  obj := fun ⟨o, e, _, d⟩ => ⟨o, _, e, d⟩
/-- pairs of the things of two sources, as long as both stand -/
def ItF (n : Nat) (G : Hp → Prop) (xs ys : List V) : It :=
  ⟨fun i H => i < n ∧ G H, fun i H v H' => ∃ T x y, v = .ref T ∧ H T = none ∧ H' = upd H T (.tup [x, y]) ∧ xs[i]? = some x ∧ ys[i]? = some y, fun i H => i = n ∧ G H⟩
theorem walk_F {n : Nat} {G : Hp → Prop} {xs ys : List V} : Walk (ItF n G xs ys) n G (YPair (fun i => xs[i]?) (fun i => ys[i]?)) :=
  ⟨fun i _ hi q => ⟨hi, q⟩, fun _ q => ⟨rfl, q⟩, fun i H v H' _ q y => y⟩
def zipTn (S1 S2 : Addr → Nat → Heap → Prop) (z I O a b : Addr) : Nat → Heap → Prop := fun i h => IsZip h z I O .none ∧ IsPair h I (.ref a) (.ref b) ∧ (∃ x y, IsPair h O x y) ∧ S1 a i h ∧ S2 b i h
theorem turn_F {P : Program} {w : World} {K : PySem.W.Frag} {elts : List Expr} {kk : Nat} {tpos : Pos} {z I O a b : Addr} {S1 S2 : Addr → Nat → Heap → Prop} {G1 G2 : Hp → Prop} {l1 l2 : List Addr} {xs ys : List V} (D : Five z I O a b) (F1 : Sr P w K S1 G1 l1 xs) (F2 : Sr P w K S2 G2 l2 ys)
    (n1 : ∀ l ∈ l1, l ≠ z ∧ l ≠ O ∧ l ≠ a ∧ l ≠ b) (n2 : ∀ l ∈ l2, l ≠ z ∧ l ≠ O ∧ l ≠ a ∧ l ≠ b) : Turn P w K (.Tuple elts kk tpos) (ItF (min xs.length ys.length) (fun H => G1 H ∧ G2 H) xs ys) [z, I, O, a, b] z (zipTn S1 S2 z I O a b) where
  mem := List.mem_cons_self
  obj := fun i h st c hc => by
    obtain ⟨q1, q2, ⟨x, y, q3⟩, q4, q5⟩ := st
    obtain ⟨o4, v4, e4, d4⟩ := F1.obj q4
    obtain ⟨o5, v5, e5, d5⟩ := F2.obj q5
    simp only [List.mem_cons, List.not_mem_nil, or_false] at hc
    rcases hc with rfl | rfl | rfl | rfl | rfl
    · exact ⟨_, q1, fun v e => nomatch e⟩
    · exact ⟨_, q2, fun v e => nomatch e⟩
    · exact ⟨_, q3, fun v e => nomatch e⟩
    · exact ⟨o4, e4, fun v e => by rw [d4] at e; cases e⟩
    · exact ⟨o5, e5, fun v e => by rw [d5] at e; cases e⟩
  keep := fun i h h' st k => by
    obtain ⟨q1, q2, ⟨x, y, q3⟩, q4, q5⟩ := st
    exact ⟨k z (by simp) _ q1, k I (by simp) _ q2, ⟨x, y, k O (by simp) _ q3⟩, F1.stay q4 fun o e => k a (by simp) o e, F2.stay q5 fun o e => k b (by simp) o e⟩
  item := by
    intro X hP hw hK hc i pins s σ H E Iv hf st hg
    obtain ⟨q1, q2, ⟨x0, y0, q3⟩, q4, q5⟩ := st
    obtain ⟨hi, g1, g2⟩ := hg
    obtain ⟨f, S, fd, sr, ss, fr⟩ := F1.feed hP hw hK Iv g1 a
    obtain ⟨g, S', fd', sr', ss', fr'⟩ := F2.feed hP hw hK Iv g2 b
    subst hP hw hK
    have zl : z < s.heap.objs.size := Heap.lt_size q1
    have st1 : ∀ h h', S h → Beside z O a b h h' → S h' := fun h h' q k => ss h h' q fun l m o e => k l o (n1 l m).1 (n1 l m).2.1 (n1 l m).2.2.1 (n1 l m).2.2.2 e
    have st2 : ∀ h h', S' h → Beside z O a b h h' → S' h' := fun h h' q k => ss' h h' q fun l m o e => k l o (n2 l m).1 (n2 l m).2.1 (n2 l m).2.2.1 (n2 l m).2.2.2 e
    refine zf_next D fd fd' st1 st2 q1 q2 q3 q4 q5 sr sr' (by omega) (by omega) fun u v h' tk fu gv z' O' s1' s2' T sz bes => ?_
    obtain ⟨x, hx, ru⟩ := fr i u fu
    obtain ⟨y, hy, rv⟩ := fr' i v gv
    refine ⟨_, rfl, wpAny_letOwnedTupleGo_zip (s := { s with heap := h', toks := tk }) z' fun h2 z2 sb => ?_⟩
    have T2 : h2.get? s.heap.objs.size = some { cls := .type "tuple", data := .seq #[u, v] } := (sb.2 _ (Nat.ne_of_gt zl)).trans T
    have new : ObjOk X.prog X.w (upd H s.heap.objs.size (.tup [x, y])) h2 s.heap.objs.size (.tup [x, y]) := ⟨by show 2 ≤ sizeLine; decide, [u, v], .cons ru (.cons rv .nil), ⟨_, T2, rfl, _, rfl⟩⟩
    have I1 : Inv X pins σ (upd H s.heap.objs.size (.tup [x, y])) { s with heap := h2, toks := tk } := Iv.turnedNew (t' := tk) (ch := [z, I, O, a, b]) (fun c o hb e => by
      simp only [List.mem_cons, List.not_mem_nil, or_false, not_or] at hb
      exact (sb.2 c hb.1).trans (bes c o hb.1 hb.2.2.1 hb.2.2.2.1 hb.2.2.2.2 e)) hf (Nat.le_refl _) new
    refine ⟨.ref s.heap.objs.size, _, I1, rfl, ⟨_, x, y, rfl, Iv.hok.fresh (Nat.le_refl _), rfl, hx, hy⟩, ⟨z2, ?_, ⟨u, v, ?_⟩, ?_, ?_⟩, fun c hcm => ?_⟩
    · exact (sb.2 _ D.Iz).trans (bes _ _ D.Iz D.IO D.Ia D.Ib q2)
    · exact (sb.2 _ D.Oz).trans O'
    · exact F1.stay s1' fun o e => (sb.2 _ D.az).trans e
    · exact F2.stay s2' fun o e => (sb.2 _ D.bz).trans e
    · have lt : c < s.heap.objs.size := by
        obtain ⟨o4, _, e4, _⟩ := F1.obj q4
        obtain ⟨o5, _, e5, _⟩ := F2.obj q5
        simp only [List.mem_cons, List.not_mem_nil, or_false] at hcm
        rcases hcm with rfl | rfl | rfl | rfl | rfl
        · exact zl
        · exact Heap.lt_size q2
        · exact Heap.lt_size q3
        · exact Heap.lt_size e4
        · exact Heap.lt_size e5
      rw [upd_ne (Nat.ne_of_lt lt)]
      exact (hf c hcm).1
  done := by
    intro X hP hw hK hc i pins s σ H E Iv hf st hg
    obtain ⟨q1, q2, ⟨x0, y0, q3⟩, q4, q5⟩ := st
    obtain ⟨hi, g1, g2⟩ := hg
    obtain ⟨f, S, fd, sr, ss, fr⟩ := F1.feed hP hw hK Iv g1 a
    obtain ⟨g, S', fd', sr', ss', fr'⟩ := F2.feed hP hw hK Iv g2 b
    subst hP hw hK
    have st1 : ∀ h h', S h → Beside z O a b h h' → S h' := fun h h' q k => ss h h' q fun l m o e => k l o (n1 l m).1 (n1 l m).2.1 (n1 l m).2.2.1 (n1 l m).2.2.2 e
    have st2 : ∀ h h', S' h → Beside z O a b h h' → S' h' := fun h h' q k => ss' h h' q fun l m o e => k l o (n2 l m).1 (n2 l m).2.1 (n2 l m).2.2.1 (n2 l m).2.2.2 e
    refine zf_done (Iv.ok.hd hc) D fd fd' st1 st2 q1 q2 q3 q4 q5 sr sr' (by omega) fun h' tk bes => ⟨rfl, Iv.turnedL (t' := tk) (ch := [z, I, O, a, b]) (fun c o hb e => ?_) hf⟩
    simp only [List.mem_cons, List.not_mem_nil, or_false, not_or] at hb
    exact bes c o hb.1 hb.2.2.1 hb.2.2.2.1 hb.2.2.2.2 e
  self := fun A i s Q E st h => wpAny_pyIter_zip st.1 h
/-! ### zip(list, tuple): its making -/
abbrev zh (h : Heap) (p q : Obj) (a b : Nat) : Heap := (((((h.push p).push q).push { cls := .type "tuple", data := .seq #[.ref a, .ref b] }).push { cls := .type "tuple", data := .seq #[.none, .none] })).push { cls := .type "zip", data := .fields #[.none, .bool false, .bool false, .ref (a + 2), .ref (a + 3)] }
abbrev oLi (l : Addr) : Obj := { cls := .type "list_iterator", data := .fields #[.ref l, .int 0 0] }
abbrev oTi (l : Addr) : Obj := { cls := .type "tuple_iterator", data := .fields #[.ref l, .int 0 0] }
theorem five_new (n : Nat) : Five (n + 4) (n + 2) (n + 3) n (n + 1) := by
  have z : ∀ i j : Nat, i ≠ j → n + i ≠ n + j := fun i j h e => h (Nat.add_left_cancel e)
  exact ⟨z 2 4 (by decide), z 3 4 (by decide), z 0 4 (by decide), z 1 4 (by decide), z 2 3 (by decide), z 2 0 (by decide), z 2 1 (by decide), z 3 0 (by decide), z 3 1 (by decide), z 0 1 (by decide)⟩
theorem new_LT (l1 l2 : Addr) (xs ys : Array Value) : Meets (Builtin.«zip.__new__» ⟨[.type "zip", .ref l1, .ref l2], []⟩) (fun _ R s => s.heap.IsList l1 xs ∧ s.heap.IsTuple l2 ys ∧
      R (.ok (.ret (.ref (s.heap.objs.size + 4)))) { s with heap := zh s.heap (oLi l1) (oTi l2) s.heap.objs.size (s.heap.objs.size + 1) }) :=
  .of_wp fun prog w A R s h => by
    obtain ⟨hp, g, d, tk, os⟩ := s; obtain ⟨t1, t2, h⟩ := h
    have sub := sub_zip
    have T1 : Heap.IsList (Shared.heap ⟨hp, g, d, tk, os⟩) l1 xs := t1
    have T2 : Heap.IsTuple (Shared.heap ⟨hp.push { cls := .type "list_iterator", data := .fields #[.ref l1, .int 0 0] }, g, d, tk, os⟩) l2 ys := Heap.IsTuple.push t2 _
    wp_walk using wpAny_pyIter_list T1, wpAny_pyIter_tuple T2
    refine ⟨_, rfl, ?_⟩
    simp only [Heap.size_push]
    exact h
theorem zh_sz (h : Heap) (p q : Obj) (hp : p.isFreed = false := by rfl) (hq : q.isFreed = false := by rfl) : (zh h p q h.objs.size (h.objs.size + 1)).get? h.objs.size = some p ∧ (zh h p q h.objs.size (h.objs.size + 1)).get? (h.objs.size + 1) = some q ∧
    IsPair (zh h p q h.objs.size (h.objs.size + 1)) (h.objs.size + 2) (.ref h.objs.size) (.ref (h.objs.size + 1)) ∧ IsPair (zh h p q h.objs.size (h.objs.size + 1)) (h.objs.size + 3) .none .none ∧ IsZip (zh h p q h.objs.size (h.objs.size + 1)) (h.objs.size + 4) (h.objs.size + 2) (h.objs.size + 3) .none := by
  have z1 : (h.push p).objs.size = h.objs.size + 1 := Heap.size_push ..
  have z2 : ((h.push p).push q).objs.size = h.objs.size + 2 := by rw [Heap.size_push, z1]
  have z3 : (((h.push p).push q).push { cls := .type "tuple", data := .seq #[.ref h.objs.size, .ref (h.objs.size + 1)] }).objs.size = h.objs.size + 3 := by rw [Heap.size_push, z2]
  have z4 : ((((h.push p).push q).push { cls := .type "tuple", data := .seq #[.ref h.objs.size, .ref (h.objs.size + 1)] }).push { cls := .type "tuple", data := .seq #[.none, .none] }).objs.size = h.objs.size + 4 := by rw [Heap.size_push, z3]
  have up : ∀ {h : Heap} {c : Addr} {o : Obj} (x : Obj), h.get? c = some o → (h.push x).get? c = some o := fun x e => Heap.get?_push_of_some x e
  refine ⟨up _ (up _ (up _ (up _ (Heap.get?_push_size h hp)))), ?_, ?_, ?_, ?_⟩
  · have e := Heap.get?_push_size (h.push p) hq
    rw [z1] at e
    exact up _ (up _ (up _ e))
  · have e := Heap.get?_push_size ((h.push p).push q) (o := { cls := .type "tuple", data := .seq #[.ref h.objs.size, .ref (h.objs.size + 1)] }) rfl
    rw [z2] at e
    exact up _ (up _ e)
  · have e := Heap.get?_push_size (((h.push p).push q).push { cls := .type "tuple", data := .seq #[.ref h.objs.size, .ref (h.objs.size + 1)] }) (o := { cls := .type "tuple", data := .seq #[.none, .none] }) rfl
    rw [z3] at e
    exact up _ e
  · have e := Heap.get?_push_size ((((h.push p).push q).push { cls := .type "tuple", data := .seq #[.ref h.objs.size, .ref (h.objs.size + 1)] }).push { cls := .type "tuple", data := .seq #[.none, .none] }) (o := { cls := .type "zip", data := .fields #[.none, .bool false, .bool false, .ref (h.objs.size + 2), .ref (h.objs.size + 3)] }) rfl
    rw [z4] at e
    exact e
def iZipLT (K : PySem.W.Frag) (ta : TA) : TI := fun σ H R => ta σ H fun vs H1 => ∃ (a b : Addr) (xs ys : List V), vs = [.ref a, .ref b] ∧ SqL K H1 a xs ∧ SqT K H1 b ys ∧ R (ItF (min xs.length ys.length) (fun H => SqL K H a xs ∧ SqT K H b ys) xs ys) H1
/-- zip(list, tuple) -/
theorem pi_zipLT {X : Cx} {e e2 : Expr} {ta : TA} {p pos tpos : Pos} {elts : List Expr} {kk : Nat} (hg : Gl X "zip") (hm : X.mg "zip" = none) (ha : PA X [e, e2] ta)
    (hs : starEach [e, e2] X.env = (false, eval e X.env) :: starEach [e2] X.env := by rfl) (hpl : (backTo pos (starEach [e2] X.env)).any (·.1) = false := by rfl) :
    PI X (.Tuple elts kk tpos) (.Call (.Name "zip" p) [e, e2] [] pos) (iZipLT X.K ta) := by
  refine ⟨fun pins s σ H R I h => Call_ (ld_blt I hg hm PyProof.Rows.boot_zip (PyProof.Rows.callWith_type1 (thn (ha.run pos pins s σ H _ I h) fun us s1 ⟨vs, H1, I1, r1, a, b, xs, ys, ex, g1, g2, q⟩ => ?_) hs hpl))⟩
  subst ex
  obtain ⟨u1, u2, rfl, ra, rb⟩ := r1.two
  cases ra
  cases rb
  obtain ⟨its, rv, p1, _⟩ := I1.list g1
  obtain ⟨its2, rv2, p2, _⟩ := I1.tuple g2
  have al : a < s1.heap.objs.size := p1.lt
  have bl : b < s1.heap.objs.size := by
    obtain ⟨o, ho, _⟩ := p2
    exact Heap.lt_size ho
  refine callType_new F.called_zip (by decide) (F.typeCall_zip_2 _ _) (F.newCall_zip_2 _ _) (fun obj => F.args_object_init_3 obj _ _) F.entry_zip_new (new_LT a b its.toArray its2.toArray) ⟨p1.isList, p2, ?_⟩
  obtain ⟨f1, f2, f3, f4, f5⟩ := zh_sz s1.heap (oLi a) (oTi b)
  have keep : ∀ c o, s1.heap.get? c = some o → (zh s1.heap (oLi a) (oTi b) s1.heap.objs.size (s1.heap.objs.size + 1)).get? c = some o := fun c o e => Heap.get?_push_of_some _ (Heap.get?_push_of_some _ (Heap.get?_push_of_some _ (Heap.get?_push_of_some _ (Heap.get?_push_of_some _ e))))
  refine ⟨⟨_, f5, rfl⟩, wpAny_pyIter_zip f5 ?_⟩
  have I2 : Inv X pins σ H1 { s1 with heap := zh s1.heap (oLi a) (oTi b) s1.heap.objs.size (s1.heap.objs.size + 1) } := I1.kept (t' := s1.toks) keep
  have ap : ∀ {l : Addr}, l < s1.heap.objs.size → l ≠ s1.heap.objs.size + 4 ∧ l ≠ s1.heap.objs.size + 3 ∧ l ≠ s1.heap.objs.size ∧ l ≠ s1.heap.objs.size + 1 := fun {l} h =>
    ⟨Nat.ne_of_lt (Nat.lt_add_right _ h), Nat.ne_of_lt (Nat.lt_add_right _ h), Nat.ne_of_lt h, Nat.ne_of_lt (Nat.lt_add_right _ h)⟩
  refine ⟨s1.heap.objs.size + 4, [s1.heap.objs.size + 4, s1.heap.objs.size + 2, s1.heap.objs.size + 3, s1.heap.objs.size, s1.heap.objs.size + 1], _, _, H1, rfl, I2, turn_F (five_new s1.heap.objs.size) (sr_list (a := a) (xs := xs)) (sr_tup (a := b) (xs := ys)) (fun l m => by rw [List.mem_singleton.mp m]; exact ap al) (fun l m => by rw [List.mem_singleton.mp m]; exact ap bl), ⟨f5, f3, ⟨_, _, f4⟩, ⟨_, f1, rfl, rfl⟩, ⟨_, f2, rfl, rfl⟩⟩, fun c hcm => ?_, q⟩
  have le : s1.heap.objs.size ≤ c := by
    simp only [List.mem_cons, List.not_mem_nil, or_false] at hcm
    rcases hcm with rfl | rfl | rfl | rfl | rfl
    · exact Nat.le_add_right _ _
    · exact Nat.le_add_right _ _
    · exact Nat.le_add_right _ _
    · exact Nat.le_refl _
    · exact Nat.le_add_right _ _
  exact I1.fpOk le (I1.hok.fresh le)
end Lj
set_option Elab.async false
set_option linter.all false
set_option maxRecDepth 100000
namespace Lj
open PySem PySem.Spec PyProof.Rows L2
theorem div_ok {i j : Int} {k : Nat} (h0 : 0 < j) (h : j.natAbs < 2 ^ k) (k0 : 0 < k) (k1 : k ≤ 9000) : CDivP i j := ⟨h0, PyProof.noPylong_of_log2 (Nat.lt_of_lt_of_le (PySem.Flt.log2_lt_of k0 h) k1)⟩
/-! ### the last step that assigns a register -/
/-- the registers that an instruction assigns -/
def asgs (w : Str) (as : List Int) : List Int := if w = "swap" then as else if w = "write" then [] else as.take 1
def Tr.asg (x : Int) : Tr → Bool
  | .op w as => decide (x ∈ asgs w as)
  | .loop _ _ => false
def la (x : Int) : List Tr → Option Nat
  | [] => none
  | t :: r => match la x r with
    | some j => some (j + 1)
    | none => if t.asg x then some 0 else none
theorem la_append (x : Int) (ys : List Tr) : ∀ xs : List Tr, la x (xs ++ ys) = match la x ys with
    | some j => some (xs.length + j)
    | none => la x xs
  | [] => by
    show la x ys = _
    cases la x ys with
    | none => rfl
    | some j => show some j = some (0 + j); rw [Nat.zero_add]
  | t :: r => by
    show (match la x (r ++ ys) with | some j => some (j + 1) | none => if t.asg x then some 0 else none) = _
    rw [la_append x ys r]
    cases la x ys with
    | none => rfl
    | some j =>
      show some (r.length + j + 1) = some (r.length + 1 + j)
      congr 1
      omega
theorem la_flat (x : Int) (xs : List Tr) : ∀ n : Nat, la x (List.replicate n xs).flatten = match n, la x xs with
    | 0, _ => none
    | k + 1, some j => some (k * xs.length + j)
    | _ + 1, none => none
  | 0 => rfl
  | n + 1 => by
    rw [List.replicate_succ', List.flatten_append, List.flatten_cons, List.flatten_nil, List.append_nil, la_append]
    cases h : la x xs with
    | some j =>
      show some (((List.replicate n xs).flatten).length + j) = some (n * xs.length + j)
      rw [flat_len]
    | none =>
      show la x (List.replicate n xs).flatten = none
      rw [la_flat x xs n, h]
      cases n <;> rfl
/-- a prefix of a repeated list -/
theorem take_flat {α : Type} (xs : List α) (n k r : Nat) (hk : k < n) (hr : r ≤ xs.length) : ((List.replicate n xs).flatten).take (k * xs.length + r) = (List.replicate k xs).flatten ++ xs.take r := by
  obtain ⟨m, rfl⟩ : ∃ m, n = k + (m + 1) := ⟨n - k - 1, by omega⟩
  rw [← List.replicate_append_replicate, List.flatten_append, ← flat_len k xs, List.take_length_add_append, List.replicate_succ, List.flatten_cons, List.take_append_of_le_length hr]
theorem take_flat_all {α : Type} (xs : List α) (n : Nat) : ((List.replicate n xs).flatten).take (n * xs.length) = (List.replicate n xs).flatten := by
  rw [← flat_len n xs]
  exact List.take_length
/-- an optional number as a value -/
def optV : Option Nat → V
  | none => .non
  | some j => .int (j : Nat)
mutual
/-- each instruction but loops has arguments -/
def Tr.hasArgs : Tr → Prop
  | .op _ as => as ≠ []
  | .loop _ b => haveArgs b
def haveArgs : List Tr → Prop
  | [] => True
  | t :: r => t.hasArgs ∧ haveArgs r
end
theorem args_get : ∀ {b : List Tr} {i : Nat} {t : Tr}, haveArgs b → b[i]? = some t → t.hasArgs
  | [], _, _, _, e => by simp at e
  | t :: r, 0, u, h, e => by
    cases e
    rw [haveArgs] at h
    exact h.1
  | t :: r, i + 1, u, h, e => by
    rw [haveArgs] at h
    exact args_get (i := i) h.2 e
theorem GoodOp.args {p n : Int} {w : Str} {as : List Int} (h : GoodOp p n w as) : as ≠ [] := by
  rcases h with ⟨_, _, _, rfl, _⟩ | ⟨_, _, rfl, _⟩ | ⟨_, _, _, rfl, _⟩ | ⟨_, _, _, _, rfl, _⟩ <;> intro z <;> cases z
mutual
theorem Tr.made_args {G : Str → List Int → Prop} {R : Int → Prop} (hG : ∀ w as, G w as → as ≠ []) : ∀ (t : Tr) (l d : Nat), t.made G R l d → t.hasArgs
  | .op w as, l, d, h => by
    rw [Tr.made] at h
    rw [Tr.hasArgs]
    exact hG w as h
  | .loop k b, l, 0, h => by rw [Tr.made] at h; exact h.elim
  | .loop k b, l, d + 1, h => by
    rw [Tr.made] at h
    rw [Tr.hasArgs]
    exact mades_args hG b (l / 2) d h.2.2
theorem mades_args {G : Str → List Int → Prop} {R : Int → Prop} (hG : ∀ w as, G w as → as ≠ []) : ∀ (b : List Tr) (l d : Nat), mades G R b l d → haveArgs b
  | [], _, _, _ => by rw [haveArgs]; trivial
  | t :: r, l, d, h => by
    rw [mades] at h
    rw [haveArgs]
    exact ⟨Tr.made_args hG t l d h.1, mades_args hG r l d h.2⟩
end
theorem mades_drop {G : Str → List Int → Prop} {R : Int → Prop} : ∀ {b : List Tr} {l d : Nat}, mades G R b l d → mades G R (b.drop 1) l d
  | [], _, _, h => h
  | t :: r, l, d, h => by
    rw [mades] at h
    exact h.2
/-! ### slices of tuples -/
theorem cut_tail (x : V) (xs : List V) : cutV (x :: xs) (some 1) none = xs := by
  unfold cutV
  rw [show HT.sIx (x :: xs).length 0 (some 1) = min 1 (x :: xs).length from HT.sIx_nat _ _ 1, HT.sIx_none, List.length_cons, show min 1 (xs.length + 1) = 1 by omega]
  show (xs.take (xs.length + 1 - 1)) = xs
  rw [Nat.add_sub_cancel]
  exact List.take_length
theorem cut_tail_ne (x : V) (xs : List V) : ¬ (HT.sIx (x :: xs).length 0 (some 1) = 0 ∧ HT.sIx (x :: xs).length (x :: xs).length none = (x :: xs).length) := by
  rw [show HT.sIx (x :: xs).length 0 (some 1) = min 1 (x :: xs).length from HT.sIx_nat _ _ 1, List.length_cons, show min 1 (xs.length + 1) = 1 by omega]
  rintro ⟨h, _⟩
  cases h
theorem cut_one (x : V) (xs : List V) : cutV (x :: xs) (some 1) (some 2) = xs.take 1 := by
  unfold cutV
  rw [show HT.sIx (x :: xs).length 0 (some 1) = min 1 (x :: xs).length from HT.sIx_nat _ _ 1, show HT.sIx (x :: xs).length (x :: xs).length (some 2) = min 2 (x :: xs).length from HT.sIx_nat _ _ 2, List.length_cons, show min 1 (xs.length + 1) = 1 by omega]
  show xs.take (min 2 (xs.length + 1) - 1) = xs.take 1
  cases xs with
  | nil => rfl
  | cons y ys => rw [show min 2 ((y :: ys).length + 1) - 1 = 1 by rw [List.length_cons]; omega]
theorem cut_one_ne (x : V) (xs : List V) : ¬ (HT.sIx (x :: xs).length 0 (some 1) = 0 ∧ HT.sIx (x :: xs).length (x :: xs).length (some 2) = (x :: xs).length) := by
  rw [show HT.sIx (x :: xs).length 0 (some 1) = min 1 (x :: xs).length from HT.sIx_nat _ _ 1, List.length_cons, show min 1 (xs.length + 1) = 1 by omega]
  rintro ⟨h, _⟩
  cases h
theorem flat_ints (ns : List Int) : (ns.map V.int).all flatV = true := by
  induction ns with
  | nil => rfl
  | cons s r ih => exact ih
theorem inV_ints {z : Int} : ∀ {ss : List Int}, inV (.int z) (ss.map V.int) = decide (z ∈ ss)
  | [] => by
    show false = _
    rw [decide_eq_false (List.not_mem_nil)]
  | s :: r => by
    show (s == z || inV (.int z) (r.map V.int)) = _
    rw [inV_ints, Bool.eq_iff_iff, Bool.or_eq_true, decide_eq_true_iff, decide_eq_true_iff, List.mem_cons, beq_iff_eq]
    constructor
    · rintro (h | h)
      · exact .inl h.symm
      · exact .inr h
    · rintro (h | h)
      · exact .inl h.symm
      · exact .inr h
/-! ### promises -/
def spAsg (K : PySem.W.Frag) : Sp := fun vs H Q _ => ∃ (v : V) (w : Str) (as : List Int) (x : Int), vs = [v, .int x] ∧ TrAt K H (.op w as) v ∧ as ≠ [] ∧ ∀ H', Same H H' → Q (.bl (decide (x ∈ asgs w as))) H'
def spLA (K : PySem.W.Frag) (n : Nat) : Sp := fun vs H Q _ => ∃ (v : V) (b : List Tr) (m x : Int), vs = [v, .int m, .int x] ∧ BodyAt K H b v ∧ okB n b ∧ haveArgs b ∧ 0 ≤ m ∧ ∀ H', Same H H' → Q (optV (la x ((exs b).take m.toNat))) H'
def spLW (K : PySem.W.Frag) (n : Nat) : Sp := fun vs H Q _ => ∃ (v : V) (t : Tr) (m x : Int), vs = [v, .int m, .int x] ∧ TrAt K H t v ∧ okB (n + 1) [t] ∧ t.hasArgs ∧ 0 ≤ m ∧ m ≤ t.len ∧ ∀ H', Same H H' → Q (optV (la x (t.ex.take m.toNat))) H'
theorem la_one (x : Int) (w : Str) (as : List Int) : la x [.op w as] = if x ∈ asgs w as then some 0 else none := by
  show (if decide (x ∈ asgs w as) = true then some 0 else none) = _
  by_cases h : x ∈ asgs w as
  · rw [decide_eq_true h, if_pos h, if_pos rfl]
  · rw [decide_eq_false h, if_neg h, if_neg Bool.false_ne_true]
/-- within a loop -/
theorem la_loop (x : Int) (E : List Tr) (k m : Nat) (hE : 0 < E.length) (hm : m ≤ k * E.length) : la x (((List.replicate k E).flatten).take m) =
    match la x (E.take (m % E.length)) with
    | some j => some (m / E.length * E.length + j)
    | none => match m / E.length, la x E with
      | 0, _ => none
      | t + 1, some j => some (t * E.length + j)
      | _ + 1, none => none := by
  have hd := Nat.div_add_mod m E.length
  have hr := Nat.mod_lt m hE
  generalize m / E.length = t at hd
  generalize m % E.length = r at hd hr
  have e : ((List.replicate k E).flatten).take m = (List.replicate t E).flatten ++ E.take r := by
    rw [← hd, Nat.mul_comm]
    by_cases h : t < k
    · exact take_flat E k t r h (Nat.le_of_lt hr)
    · have h1 : k * E.length ≤ t * E.length := Nat.mul_le_mul_right _ (by omega)
      have h2 : t * E.length + r ≤ k * E.length := by rw [← hd, Nat.mul_comm] at hm; exact hm
      have h3 : r = 0 := by omega
      have h4 : t = k := by
        have := Nat.eq_of_mul_eq_mul_right hE (show t * E.length = k * E.length by omega)
        exact this
      subst h3 h4
      rw [Nat.add_zero, take_flat_all, List.take_zero, List.append_nil]
  rw [e, la_append]
  cases la x (E.take r) with
  | some j =>
    show some (((List.replicate t E).flatten).length + j) = _
    rw [flat_len]
  | none => exact la_flat x E t
end Lj
namespace Lj
open PySem PySem.Spec PyProof.Rows L2
theorem vals_snoc : ∀ {xs : List V} {us : List Value} {x : V} {u : Value}, Vals xs us → RelV x u → Vals (xs ++ [x]) (us ++ [u])
  | _, _, _, _, .nil, r => .cons r .nil
  | _, _, _, _, .cons a b, r => .cons a (vals_snoc b r)
theorem vals_rev : ∀ {xs : List V} {us : List Value}, Vals xs us → Vals xs.reverse us.reverse
  | _, _, .nil => .nil
  | _, _, .cons a b => by
    rw [List.reverse_cons, List.reverse_cons]
    exact vals_snoc (vals_rev b) a
end Lj
set_option Elab.async false
set_option linter.all false
set_option maxRecDepth 100000
namespace Lj
open PySem PySem.Spec PyProof.Rows L2
/-! ### trees shown -/
mutual
def Tr.datT : Tr → PyData
  | .op w as => .tuple (.str w :: as.map .int)
  | .loop k b => .tuple [.str "loop", .int k, .tuple (datTs b)]
def datTs : List Tr → List PyData
  | [] => []
  | t :: r => t.datT :: datTs r
end
mutual
theorem Tr.dp {K : PySem.W.Frag} {H : Hp} : ∀ (t : Tr) (v : V), TrAt K H t v → Dp K H v t.datT
  | .op w as, v, h => by
    rw [TrAt] at h
    obtain ⟨a, rfl, sq⟩ := h
    rw [Tr.datT]
    exact .tup sq (.cons (.str w) (dp_ints as))
  | .loop k b, v, h => by
    rw [TrAt] at h
    obtain ⟨a, c, vs, rfl, sq, sq2, r⟩ := h
    rw [Tr.datT]
    exact .tup sq (.cons (.str _) (.cons (.int k) (.cons (.tup sq2 (trs_dp b vs r)) .nil)))
theorem trs_dp {K : PySem.W.Frag} {H : Hp} : ∀ (b : List Tr) (vs : List V), TrsAt K H b vs → DpAll K H vs (datTs b)
  | [], vs, h => by
    rw [TrsAt] at h
    rw [h, datTs]
    exact .nil
  | t :: r, vs, h => by
    rw [TrsAt] at h
    obtain ⟨v, us, rfl, a, k⟩ := h
    rw [datTs]
    exact .cons (Tr.dp t v a) (trs_dp r us k)
end
def sb : Nat → Nat
  | 0 => 20000
  | d + 1 => 20000 + 8 * (sb d + 2)
theorem sb_ge : ∀ d, 20000 ≤ sb d
  | 0 => Nat.le_refl _
  | d + 1 => by rw [sb]; omega
/-- short arguments -/
def Short (w : Str) (as : List Int) : Prop := w ∈ W7 ∧ as.length ≤ 3 ∧ ∀ a ∈ as, a.natAbs < 2 ^ 1000
theorem W7_shown {w : Str} (h : w ∈ W7) : (PyData.shown (.str w)).length ≤ 20 := by
  have z : (W7.all fun w => decide ((PyData.shown (.str w)).length ≤ 20)) = true := by decide +kernel
  exact of_decide_eq_true (List.all_eq_true.mp z w h)
mutual
theorem Tr.made_show {G : Str → List Int → Prop} {R : Int → Prop} (hG : ∀ w as, G w as → Short w as) (hR : ∀ k, R k → k.natAbs < 2 ^ 1000) : ∀ (t : Tr) (l d : Nat), l ≤ 8 → t.made G R l d →
    t.datT.showable = true ∧ t.datT.hasDict = false ∧ t.datT.depth ≤ 2 * d + 1 ∧ t.datT.shown.length ≤ sb d
  | .op w as, l, d, hl, h => by
    rw [Tr.made] at h
    obtain ⟨h1, h2, h3⟩ := hG w as h
    obtain ⟨a1, a2, a3, a4, a5⟩ := leaf_all (leaf_ints h3)
    rw [Tr.datT]
    refine ⟨by rw [PyData.showable, PyData.showableAll, PyData.showable, a1]; rfl, by rw [PyData.hasDict, PyData.hasDictAll, PyData.hasDict, a2]; rfl, by rw [PyData.depth, PyData.depthAll, PyData.depth, a3]; exact Nat.succ_le_succ (Nat.zero_le _), ?_⟩
    rw [PyData.shown, PyData.shownAll]
    have z := PySem.tupleText_len_le (PyData.shown (.str w) :: PyData.shownAll (as.map PyData.int))
    rw [List.map_cons, List.sum_cons, List.length_cons, a5] at z
    have z2 := W7_shown h1
    have z3 := sb_ge d
    rw [List.length_map] at z a4
    omega
  | .loop k b, l, 0, _, h => by rw [Tr.made] at h; exact h.elim
  | .loop k b, l, d + 1, hl, h => by
    rw [Tr.made] at h
    obtain ⟨b1, b2, b3, b4, b5⟩ := mades_show hG hR b (l / 2) d (by omega) h.2.2
    obtain ⟨i1, i2, i3, i4⟩ := leaf_int (log_of (hR k h.1) (by decide) (by decide))
    have lp : (PyData.shown (.str "loop")).length ≤ 20 := by decide +kernel
    have y := PySem.tupleText_len_le (PyData.shownAll (datTs b))
    have hb := h.2.1
    rw [Tr.datT]
    refine ⟨by rw [PyData.showable, PyData.showableAll, PyData.showable, PyData.showableAll, i1, PyData.showableAll, PyData.showable, b1, PyData.showableAll]; rfl,
      by rw [PyData.hasDict, PyData.hasDictAll, PyData.hasDict, PyData.hasDictAll, i2, PyData.hasDictAll, PyData.hasDict, b2, PyData.hasDictAll]; rfl,
      by rw [PyData.depth, PyData.depthAll, PyData.depth, PyData.depthAll, i3, PyData.depthAll, PyData.depth, PyData.depthAll]; omega, ?_⟩
    rw [PyData.shown, PyData.shownAll, PyData.shownAll, PyData.shownAll, PyData.shownAll]
    have z := PySem.tupleText_len_le [PyData.shown (.str "loop"), PyData.shown (.int k), PyData.shown (.tuple (datTs b))]
    have ez : (PyData.shown (.tuple (datTs b))) = tupleText (PyData.shownAll (datTs b)) := by rw [PyData.shown]
    rw [List.map_cons, List.map_cons, List.map_cons, List.map_nil, List.sum_cons, List.sum_cons, List.sum_cons, List.sum_nil, ez] at z
    rw [show ([PyData.shown (.str "loop"), PyData.shown (.int k), tupleText (PyData.shownAll (datTs b))] : List Str).length = 3 from rfl] at z
    rw [ez, sb]
    have m1 : b.length * sb d ≤ 4 * sb d := Nat.mul_le_mul_right _ (by omega)
    have := sb_ge d
    omega
theorem mades_show {G : Str → List Int → Prop} {R : Int → Prop} (hG : ∀ w as, G w as → Short w as) (hR : ∀ k, R k → k.natAbs < 2 ^ 1000) : ∀ (b : List Tr) (l d : Nat), l ≤ 8 → mades G R b l d →
    PyData.showableAll (datTs b) = true ∧ PyData.hasDictAll (datTs b) = false ∧ PyData.depthAll (datTs b) ≤ 2 * d + 1 ∧ ((PyData.shownAll (datTs b)).map (·.length)).sum ≤ b.length * sb d ∧ (PyData.shownAll (datTs b)).length = b.length
  | [], l, d, _, _ => by
    rw [datTs]
    exact ⟨by rw [PyData.showableAll], by rw [PyData.hasDictAll], by rw [PyData.depthAll]; exact Nat.zero_le _, by rw [PyData.shownAll]; exact Nat.zero_le _, by rw [PyData.shownAll]; rfl⟩
  | t :: r, l, d, hl, h => by
    rw [mades] at h
    obtain ⟨a1, a2, a3, a4⟩ := Tr.made_show hG hR t l d hl h.1
    obtain ⟨b1, b2, b3, b4, b5⟩ := mades_show hG hR r l d hl h.2
    rw [datTs]
    refine ⟨by rw [PyData.showableAll, a1, b1]; rfl, by rw [PyData.hasDictAll, a2, b2]; rfl, by rw [PyData.depthAll]; omega, ?_, by rw [PyData.shownAll, List.length_cons, b5, List.length_cons]⟩
    rw [PyData.shownAll, List.map_cons, List.sum_cons, List.length_cons, Nat.succ_mul]
    omega
end
/-! ### reads among what is executed -/
def rc (E : List Tr) : Int := (((E.map Tr.word).count ("read" : Str) : Nat) : Int)
theorem rc_nil : rc [] = 0 := rfl
theorem rc_append (a b : List Tr) : rc (a ++ b) = rc a + rc b := by
  unfold rc
  rw [List.map_append, List.count_append, Int.natCast_add]
theorem rc_exs {b : List Tr} {n : Nat} (h : wfs b n) : rc (exs b) = cnts "read" b := exs_cnt "read" b n h
theorem rc_ex {t : Tr} {n : Nat} (h : t.wf n) : rc t.ex = t.cnt "read" := Tr.ex_cnt "read" t n h
theorem rc_flat (xs : List Tr) (n : Nat) : rc (List.replicate n xs).flatten = n * rc xs := by
  unfold rc
  rw [count_flat, Int.natCast_mul]
theorem rc_loop (E : List Tr) (k m : Nat) (hE : 0 < E.length) (hm : m < k * E.length) : rc (((List.replicate k E).flatten).take m) = ((m / E.length : Nat) : Int) * rc E + rc (E.take (m % E.length)) := by
  have hd := Nat.div_add_mod m E.length
  have hr := Nat.mod_lt m hE
  have ht : m / E.length < k := (Nat.div_lt_iff_lt_mul hE).mpr hm
  generalize m / E.length = t at hd ht
  generalize m % E.length = r at hd hr
  rw [← hd, Nat.mul_comm, take_flat E k t r ht (Nat.le_of_lt hr), rc_append, rc_flat]
theorem rc_nn (E : List Tr) : 0 ≤ rc E := Int.natCast_nonneg _
theorem rc_le (E : List Tr) : rc E ≤ E.length := by
  unfold rc
  have := List.count_le_length (a := ("read" : Str)) (l := E.map Tr.word)
  rw [List.length_map] at this
  omega
def spRB (K : PySem.W.Frag) (n : Nat) : Sp := fun vs H Q _ => ∃ (v : V) (b : List Tr) (m : Int), vs = [v, .int m] ∧ BodyAt K H b v ∧ okB n b ∧ 0 ≤ m ∧ ∀ H', Same H H' → Q (.int (rc ((exs b).take m.toNat))) H'
def spRW (K : PySem.W.Frag) (n : Nat) : Sp := fun vs H Q _ => ∃ (v : V) (t : Tr) (m : Int), vs = [v, .int m] ∧ TrAt K H t v ∧ okB (n + 1) [t] ∧ 0 ≤ m ∧ m < t.len ∧ ∀ H', Same H H' → Q (.int (rc (t.ex.take m.toNat))) H'
end Lj
set_option Elab.async false
set_option linter.all false
set_option maxRecDepth 100000
namespace Lj
open PySem PySem.Spec PyProof.Rows L2
theorem wfs_take {b : List Tr} {n i : Nat} (h : wfs b n) : wfs (b.take i) n := wfs_all fun t m => by
  obtain ⟨j, hj, e⟩ := List.mem_iff_getElem.mp (List.mem_of_mem_take m)
  exact wfs_get (i := j) h (by rw [List.getElem?_eq_getElem hj, e])
theorem flat_takeL {b : List Tr} {i : Nat} {t : Tr} (e : b[i]? = some t) : exs (b.take (i + 1)) = exs (b.take i) ++ t.ex := by
  rw [exs_map, exs_map, map_next e, List.flatten_append, List.flatten_cons, List.flatten_nil, List.append_nil]
theorem lens_nextL {b : List Tr} {i : Nat} {t : Tr} (e : b[i]? = some t) : lens (b.take (i + 1)) = lens (b.take i) + t.len := by rw [lens_map, lens_map, sum_next e]
theorem exs_split (b : List Tr) (i : Nat) : exs b = exs (b.take i) ++ exs (b.drop i) := by rw [exs_map, exs_map, exs_map, ← List.flatten_append, ← List.map_append, List.take_append_drop]
theorem lens_split (b : List Tr) (i : Nat) : lens b = lens (b.take i) + lens (b.drop i) := by rw [lens_map, lens_map, lens_map, ← List.sum_append, ← List.map_append, List.take_append_drop]
theorem wfs_drop {b : List Tr} {n i : Nat} (h : wfs b n) : wfs (b.drop i) n := wfs_all fun t m => by
  obtain ⟨j, hj, e⟩ := List.mem_iff_getElem.mp (List.mem_of_mem_drop m)
  exact wfs_get (i := j) h (by rw [List.getElem?_eq_getElem hj, e])
/-! ### paths -/
/-- ps leads into b to the instruction t, the step st of b is the step r of t -/
inductive PT : List Tr → List Int → Tr → Int → Int → Prop
  | here {b : List Tr} {i : Nat} {t : Tr} {r : Int} (e : b[i]? = some t) : PT b [(i : Int)] t r (lens (b.take i) + r)
  | into {b b' : List Tr} {i : Nat} {k turn r st : Int} {t : Tr} {ps : List Int} (e : b[i]? = some (.loop k b')) (h0 : 0 ≤ turn) (h1 : turn < k) (p : PT b' ps t r st) : PT b ((i : Int) :: turn :: ps) t r (lens (b.take i) + (turn * lens b' + st))
theorem PT.deeper {b : List Tr} {ps : List Int} {t : Tr} {r st : Int} (p : PT b ps t r st) : ∀ {k turn r' : Int} {b' : List Tr} {j : Nat} {t' : Tr}, t = .loop k b' → 0 ≤ turn → turn < k → b'[j]? = some t' → r = turn * lens b' + (lens (b'.take j) + r') → PT b (ps ++ [turn, (j : Int)]) t' r' st := by
  induction p with
  | here e =>
    intro k turn r' b' j t' et h0 h1 ej er
    subst et er
    exact .into e h0 h1 (.here ej)
  | into e h0 h1 p ih =>
    intro k turn r' b' j t' et g0 g1 ej er
    exact .into e h0 h1 (ih et g0 g1 ej er)
theorem get_flat {α : Type} (E : List α) (k t r : Nat) (ht : t < k) (hr : r < E.length) : ((List.replicate k E).flatten)[t * E.length + r]? = E[r]? := by
  have h1 := take_flat E k t (r + 1) ht hr
  have h2 : (((List.replicate k E).flatten).take (t * E.length + (r + 1)))[t * E.length + r]? = ((List.replicate t E).flatten ++ E.take (r + 1))[t * E.length + r]? := by rw [h1]
  rw [List.getElem?_take_of_lt (by omega), List.getElem?_append_right (by rw [flat_len]; omega), flat_len, Nat.add_sub_cancel_left, List.getElem?_take_of_lt (by omega)] at h2
  exact h2
theorem PT.step {b : List Tr} {ps : List Int} {t : Tr} {r st : Int} (p : PT b ps t r st) : ∀ {n : Nat}, wfs b n → 0 ≤ r → r < t.len → 0 ≤ st ∧ st < lens b ∧ (exs b)[st.toNat]? = t.ex[r.toNat]? := by
  induction p with
  | @here b i t r e =>
    intro n h r0 r1
    have el := exs_len (b.take i) n (wfs_take h)
    have tl := Tr.ex_len t n (wfs_get h e)
    have l0 := (lens_bd _ n (wfs_take (i := i) h)).1
    have l2 := lens_nextL e
    have l3 := lens_split b (i + 1)
    have l4 := (lens_bd _ n (wfs_drop (i := i + 1) h)).1
    refine ⟨by omega, by omega, ?_⟩
    rw [exs_split b (i + 1), flat_takeL e, List.append_assoc, List.getElem?_append_right (by omega), List.getElem?_append_left (by omega)]
    congr 1
    omega
  | @into b b' i k turn r st t ps e h0 h1 p ih =>
    intro n h r0 r1
    have wt := wfs_get h e
    cases n with
    | zero => rw [Tr.wf] at wt; exact wt.elim
    | succ n =>
      have wt2 := wt
      rw [Tr.wf] at wt
      obtain ⟨s0, s1, s2⟩ := ih wt.2.2.2 r0 r1
      have el := exs_len (b.take i) _ (wfs_take h)
      have eb := exs_len b' n wt.2.2.2
      have tl := Tr.ex_len (.loop k b') _ wt2
      have l0 := (lens_bd _ _ (wfs_take (i := i) h)).1
      have l2 := lens_nextL e
      have l3 := lens_split b (i + 1)
      have l4 := (lens_bd _ _ (wfs_drop (i := i + 1) h)).1
      rw [Tr.len] at l2 tl
      have m0 : 0 ≤ turn * lens b' := Int.mul_nonneg h0 (by omega)
      have m1 : turn * lens b' + lens b' ≤ k * lens b' := by
        have := Int.mul_le_mul_of_nonneg_right (show turn + 1 ≤ k by omega) (show 0 ≤ lens b' by omega)
        rw [Int.add_mul, Int.one_mul] at this
        exact this
      refine ⟨by omega, by omega, ?_⟩
      rw [exs_split b (i + 1), flat_takeL e, List.append_assoc, List.getElem?_append_right (by omega), List.getElem?_append_left (by omega), ← s2, Tr.ex]
      have ix : (lens (b.take i) + (turn * lens b' + st)).toNat - (exs (b.take i)).length = turn.toNat * (exs b').length + st.toNat := by
        have : ((turn.toNat * (exs b').length : Nat) : Int) = turn * lens b' := by
          rw [Int.natCast_mul, eb]
          congr 1
          omega
        omega
      rw [ix]
      exact get_flat (exs b') k.toNat turn.toNat st.toNat (by omega) (by omega)
/-! ### slices of bodies -/
theorem TrsAt.take {K : PySem.W.Frag} {H : Hp} : ∀ {b : List Tr} {vs : List V} (i : Nat), TrsAt K H b vs → TrsAt K H (b.take i) (vs.take i)
  | b, vs, 0, _ => TrsAt.nil
  | [], vs, i + 1, h => by
    rw [TrsAt] at h
    subst h
    exact TrsAt.nil
  | t :: r, vs, i + 1, h => by
    rw [TrsAt] at h
    obtain ⟨v, us, rfl, a, k⟩ := h
    rw [List.take_succ_cons, List.take_succ_cons, TrsAt]
    exact ⟨v, _, rfl, a, TrsAt.take i k⟩
theorem TrsAt.drop {K : PySem.W.Frag} {H : Hp} : ∀ {b : List Tr} {vs : List V} (i : Nat), TrsAt K H b vs → TrsAt K H (b.drop i) (vs.drop i)
  | b, vs, 0, h => h
  | [], vs, i + 1, h => by
    rw [TrsAt] at h
    subst h
    exact TrsAt.nil
  | t :: r, vs, i + 1, h => by
    rw [TrsAt] at h
    obtain ⟨v, us, rfl, a, k⟩ := h
    exact TrsAt.drop i k
theorem cut_to (xs : List V) (i : Nat) : cutV xs none (some (i : Int)) = xs.take i := by
  unfold cutV
  rw [HT.sIx_none, HT.sIx_nat, List.drop_zero, Nat.sub_zero]
  by_cases h : i ≤ xs.length
  · rw [Nat.min_eq_left h]
  · rw [Nat.min_eq_right (by omega), List.take_length, List.take_of_length_le (by omega)]
theorem cut_mid (xs : List V) (i : Nat) (h : i < xs.length) : cutV xs (some (i : Int)) (some ((i : Int) + 1)) = (xs.drop i).take 1 := by
  unfold cutV
  rw [HT.sIx_nat, show ((i : Int) + 1) = ((i + 1 : Nat) : Int) from rfl, HT.sIx_nat, Nat.min_eq_left (Nat.le_of_lt h), Nat.min_eq_left h]
  congr 1
  omega
theorem cut_whole (xs : List V) (lo hi : Option Int) (h : HT.sIx xs.length 0 lo = 0 ∧ HT.sIx xs.length xs.length hi = xs.length) : cutV xs lo hi = xs := by
  unfold cutV
  rw [h.1, h.2, List.drop_zero, Nat.sub_zero, List.take_length]
theorem body_cut {K : PySem.W.Frag} {H : Hp} {b c : List Tr} {a : Addr} {vs : List V} {lo hi : Option Int} {Q : V → Hp → Prop} (sq : SqT K H a vs) (tr : TrsAt K H b vs) (tc : TrsAt K H c (cutV vs lo hi)) (q : ∀ v' H', Same H H' → BodyAt K H' c v' → Q v' H') : rSlA K (.ref a) lo hi H Q := by
  refine ⟨a, vs, rfl, sq, fun h => ?_, fun _ p np => ?_⟩
  · rw [cut_whole vs lo hi h] at tc
    exact q _ H (Same.refl H) ⟨a, vs, rfl, sq, tc⟩
  · exact q _ _ (same_new np) ⟨p, _, rfl, SqT.of upd_same, TrsAt.kt (Kt.same (same_new np)) _ _ tc⟩
/-! ### whether a register is assigned at all -/
mutual
def Tr.nam (x : Int) : Tr → Bool
  | .op w as => decide (x ∈ asgs w as)
  | .loop k b => decide (0 < k) && nams x b
def nams (x : Int) : List Tr → Bool
  | [] => false
  | t :: r => t.nam x || nams x r
end
theorem la_none (x : Int) : ∀ {E : List Tr}, la x E = none ↔ ∀ t ∈ E, t.asg x = false
  | [] => by
    constructor
    · intro _ t m
      cases m
    · intro _
      rfl
  | t :: r => by
    have ih := la_none x (E := r)
    show (match la x r with | some j => some (j + 1) | none => if t.asg x = true then some 0 else none) = none ↔ _
    cases h : la x r with
    | some j =>
      constructor
      · intro z
        cases z
      · intro z
        have := ih.mpr fun u m => z u (List.mem_cons_of_mem _ m)
        rw [h] at this
        cases this
    | none =>
      have h2 := ih.mp h
      show (if t.asg x = true then some 0 else none) = none ↔ _
      by_cases g : t.asg x = true
      · rw [if_pos g]
        constructor
        · intro z
          cases z
        · intro z
          rw [z t List.mem_cons_self] at g
          cases g
      · rw [if_neg g]
        constructor
        · intro _ u m
          rcases List.mem_cons.mp m with rfl | m
          · exact Bool.eq_false_iff.mpr g
          · exact h2 u m
        · intro _
          rfl
mutual
theorem Tr.nam_iff (x : Int) : ∀ (t : Tr) (n : Nat), t.wf n → (t.nam x = false ↔ ∀ u ∈ t.ex, u.asg x = false)
  | .op w as, n, _ => by
    rw [Tr.nam, Tr.ex]
    constructor
    · intro h u m
      rw [List.mem_singleton.mp m]
      exact h
    · intro h
      exact h _ (List.mem_singleton.mpr rfl)
  | .loop k b, 0, h => by rw [Tr.wf] at h; exact h.elim
  | .loop k b, n + 1, h => by
    rw [Tr.wf] at h
    have ih := nams_iff x b n h.2.2.2
    rw [Tr.nam, Tr.ex]
    constructor
    · intro z u m
      obtain ⟨xs, m1, m2⟩ := List.mem_flatten.mp m
      obtain ⟨m3, m4⟩ := List.mem_replicate.mp m1
      rw [m4] at m2
      rw [decide_eq_true (show 0 < k by omega), Bool.true_and] at z
      exact ih.mp z u m2
    · intro z
      by_cases g : 0 < k
      · rw [decide_eq_true g, Bool.true_and]
        refine ih.mpr fun u m => z u (List.mem_flatten.mpr ⟨exs b, List.mem_replicate.mpr ⟨by omega, rfl⟩, m⟩)
      · rw [decide_eq_false g, Bool.false_and]
theorem nams_iff (x : Int) : ∀ (b : List Tr) (n : Nat), wfs b n → (nams x b = false ↔ ∀ u ∈ exs b, u.asg x = false)
  | [], n, _ => by
    rw [nams, exs]
    constructor
    · intro _ u m
      cases m
    · intro _
      rfl
  | t :: r, n, h => by
    rw [wfs] at h
    have h1 := Tr.nam_iff x t n h.1
    have h2 := nams_iff x r n h.2
    rw [nams, exs, Bool.or_eq_false_iff, h1, h2]
    constructor
    · rintro ⟨a, b⟩ u m
      rcases List.mem_append.mp m with m | m
      · exact a u m
      · exact b u m
    · intro z
      exact ⟨fun u m => z u (List.mem_append.mpr (.inl m)), fun u m => z u (List.mem_append.mpr (.inr m))⟩
end
theorem la_get (x : Int) : ∀ {E : List Tr} {j : Nat}, la x E = some j → ∃ t, E[j]? = some t ∧ t.asg x = true
  | [], j, h => by cases h
  | t :: r, j, h => by
    have h : (match la x r with | some j => some (j + 1) | none => if t.asg x = true then some 0 else none) = some j := h
    cases e : la x r with
    | some i =>
      rw [e] at h
      cases h
      obtain ⟨u, h1, h2⟩ := la_get x e
      exact ⟨u, h1, h2⟩
    | none =>
      rw [e] at h
      have h : (if t.asg x = true then some 0 else none) = some j := h
      by_cases g : t.asg x = true
      · rw [if_pos g] at h
        cases h
        exact ⟨t, rfl, g⟩
      · rw [if_neg g] at h
        cases h
theorem la_ltL (x : Int) {E : List Tr} {j : Nat} (h : la x E = some j) : j < E.length := by
  obtain ⟨t, h1, _⟩ := la_get x h
  exact (List.getElem?_eq_some_iff.mp h1).1
/-- just behind a step that assigns it, it is this step -/
theorem la_at (x : Int) {E : List Tr} {j : Nat} {t : Tr} (e : E[j]? = some t) (a : t.asg x = true) : la x (E.take (j + 1)) = some j := by
  rw [List.take_add_one, e, la_append]
  have : la x (some t).toList = some 0 := by
    show (if t.asg x = true then some 0 else none) = some 0
    rw [if_pos a]
  rw [this]
  have l := (List.getElem?_eq_some_iff.mp e).1
  show some ((E.take j).length + 0) = some j
  rw [List.length_take]
  congr 1
  omega
end Lj
namespace Lj
open PySem PySem.Spec PyProof.Rows L2
mutual
theorem Tr.args_in : ∀ (t : Tr) (n : Nat), t.wf n → t.hasArgs → ∀ u ∈ t.ex, u.hasArgs
  | .op w as, n, _, h => by
    rw [Tr.ex]
    intro u m
    rw [List.mem_singleton.mp m]
    exact h
  | .loop k b, 0, h, _ => by rw [Tr.wf] at h; exact h.elim
  | .loop k b, n + 1, h, a => by
    rw [Tr.wf] at h
    rw [Tr.hasArgs] at a
    rw [Tr.ex]
    intro u m
    obtain ⟨xs, m1, m2⟩ := List.mem_flatten.mp m
    rw [(List.mem_replicate.mp m1).2] at m2
    exact exs_args b n h.2.2.2 a u m2
theorem exs_args : ∀ (b : List Tr) (n : Nat), wfs b n → haveArgs b → ∀ u ∈ exs b, u.hasArgs
  | [], _, _, _ => by rw [exs]; intro u m; cases m
  | t :: r, n, h, a => by
    rw [wfs] at h
    rw [haveArgs] at a
    rw [exs]
    intro u m
    rcases List.mem_append.mp m with m | m
    · exact Tr.args_in t n h.1 a.1 u m
    · exact exs_args r n h.2 a.2 u m
end
theorem args_in {b : List Tr} {n j : Nat} {z : Str} {as : List Int} (a : haveArgs b) (h : wfs b n) (e : (exs b)[j]? = some (.op z as)) : as ≠ [] := by
  have := exs_args b n h a _ (List.mem_of_getElem? e)
  rw [Tr.hasArgs] at this
  exact this
end Lj
set_option Elab.async false
set_option linter.all false
set_option maxRecDepth 100000
namespace Lj
open PySem PySem.Spec PyProof.Rows L2
section
variable {X : Cx} {K : PySem.W.Frag}
theorem sl_tupAK (h : X.K = K) : SlR X (rSlA K) := h ▸ sl_tupA
end
mutual
/-- G of each instruction but loops -/
def Tr.allG (G : Str → List Int → Prop) : Tr → Prop
  | .op w as => G w as
  | .loop _ b => allGs G b
def allGs (G : Str → List Int → Prop) : List Tr → Prop
  | [] => True
  | t :: r => t.allG G ∧ allGs G r
end
theorem allGs_get {G : Str → List Int → Prop} : ∀ {b : List Tr} {i : Nat} {t : Tr}, allGs G b → b[i]? = some t → t.allG G
  | [], _, _, _, e => by simp at e
  | t :: r, 0, u, h, e => by
    cases e
    rw [allGs] at h
    exact h.1
  | t :: r, i + 1, u, h, e => by
    rw [allGs] at h
    exact allGs_get (i := i) h.2 e
theorem allGs_mem {G : Str → List Int → Prop} : ∀ {b : List Tr}, (∀ t ∈ b, t.allG G) → allGs G b
  | [], _ => by rw [allGs]; trivial
  | t :: r, h => by
    rw [allGs]
    exact ⟨h t List.mem_cons_self, allGs_mem fun u m => h u (List.mem_cons_of_mem _ m)⟩
mutual
theorem Tr.made_allG {G : Str → List Int → Prop} {R : Int → Prop} : ∀ (t : Tr) (l d : Nat), t.made G R l d → t.allG G
  | .op w as, l, d, h => by
    rw [Tr.made] at h
    rw [Tr.allG]
    exact h
  | .loop k b, l, 0, h => by rw [Tr.made] at h; exact h.elim
  | .loop k b, l, d + 1, h => by
    rw [Tr.made] at h
    rw [Tr.allG]
    exact mades_allG b (l / 2) d h.2.2
theorem mades_allG {G : Str → List Int → Prop} {R : Int → Prop} : ∀ (b : List Tr) (l d : Nat), mades G R b l d → allGs G b
  | [], _, _, _ => by rw [allGs]; trivial
  | t :: r, l, d, h => by
    rw [mades] at h
    rw [allGs]
    exact ⟨Tr.made_allG t l d h.1, mades_allG r l d h.2⟩
end
theorem PT.good {G : Str → List Int → Prop} {b : List Tr} {ps : List Int} {t : Tr} {r st : Int} (p : PT b ps t r st) : allGs G b → t.allG G := by
  induction p with
  | here e => exact fun h => allGs_get h e
  | into e h0 h1 p ih =>
    intro h
    have := allGs_get h e
    rw [Tr.allG] at this
    exact ih this
theorem idx_unique {b : List Tr} {n i j : Nat} {t u : Tr} {x y : Int} (h : wfs b n) (ei : b[i]? = some t) (ej : b[j]? = some u) (x0 : 0 ≤ x) (x1 : x < t.len) (y0 : 0 ≤ y) (y1 : y < u.len) (e : lens (b.take i) + x = lens (b.take j) + y) : i = j := by
  have mono : ∀ {i j : Nat}, i ≤ j → lens (b.take i) ≤ lens (b.take j) := fun {i j} hij => by
    have e2 : b.take i = (b.take j).take i := by rw [List.take_take, Nat.min_eq_left hij]
    have := lens_split (b.take j) i
    rw [← e2] at this
    have h2 := (lens_bd _ n (wfs_drop (i := i) (wfs_take (i := j) h))).1
    omega
  have li := lens_nextL ei
  have lj := lens_nextL ej
  by_cases g : i < j
  · have := mono (show i + 1 ≤ j by omega)
    omega
  · by_cases g2 : j < i
    · have := mono (show j + 1 ≤ i by omega)
      omega
    · omega
/-- at most one path for a step -/
theorem PT.unique {b : List Tr} {ps : List Int} {t : Tr} {r st : Int} (p : PT b ps t r st) : ∀ {n : Nat} {ps2 : List Int} {z z2 : Str} {as as2 : List Int}, wfs b n → t = .op z as → r = 0 → PT b ps2 (.op z2 as2) 0 st → ps2 = ps ∧ Tr.op z2 as2 = .op z as := by
  induction p with
  | @here b i t r e =>
    intro n ps2 z z2 as as2 h et er p2
    subst et er
    generalize hs : lens (b.take i) + 0 = st at p2
    generalize ht : Tr.op z2 as2 = t2 at p2
    generalize hr : (0 : Int) = r2 at p2
    cases p2 with
    | @here _ j _ _ e2 =>
      subst ht hr
      have ij := idx_unique h e e2 (Int.le_refl 0) (by rw [Tr.len]; decide) (Int.le_refl 0) (by rw [Tr.len]; decide) hs
      subst ij
      rw [e] at e2
      cases e2
      exact ⟨rfl, rfl⟩
    | @into _ b' j k turn _ st' _ ps' e2 h0 h1 p' =>
      subst ht hr
      have wt := wfs_get h e2
      cases n with
      | zero => rw [Tr.wf] at wt; exact wt.elim
      | succ n =>
        rw [Tr.wf] at wt
        obtain ⟨s0, s1, _⟩ := p'.step wt.2.2.2 (Int.le_refl 0) (by rw [Tr.len]; decide)
        have m0 : 0 ≤ turn * lens b' := Int.mul_nonneg h0 (by omega)
        have m1 : turn * lens b' + lens b' ≤ k * lens b' := by
          have := Int.mul_le_mul_of_nonneg_right (show turn + 1 ≤ k by omega) (show 0 ≤ lens b' by omega)
          rw [Int.add_mul, Int.one_mul] at this
          exact this
        have ij := idx_unique h e e2 (Int.le_refl 0) (by rw [Tr.len]; decide) (show 0 ≤ turn * lens b' + st' by omega) (by rw [Tr.len]; omega) hs
        subst ij
        rw [e] at e2
        cases e2
  | @into b b' i k turn r st t ps e h0 h1 p ih =>
    intro n ps2 z z2 as as2 h et er p2
    have wt := wfs_get h e
    cases n with
    | zero => rw [Tr.wf] at wt; exact wt.elim
    | succ n =>
      rw [Tr.wf] at wt
      have p0 := p
      subst et er
      obtain ⟨s0, s1, _⟩ := p0.step wt.2.2.2 (Int.le_refl 0) (by rw [Tr.len]; decide)
      have m0 : 0 ≤ turn * lens b' := Int.mul_nonneg h0 (by omega)
      have m1 : turn * lens b' + lens b' ≤ k * lens b' := by
        have := Int.mul_le_mul_of_nonneg_right (show turn + 1 ≤ k by omega) (show 0 ≤ lens b' by omega)
        rw [Int.add_mul, Int.one_mul] at this
        exact this
      generalize hs : lens (b.take i) + (turn * lens b' + st) = st2 at p2
      generalize ht : Tr.op z2 as2 = t2 at p2
      generalize hr : (0 : Int) = r2 at p2
      cases p2 with
      | @here _ j _ _ e2 =>
        subst ht hr
        have ij := idx_unique h e e2 (show 0 ≤ turn * lens b' + st by omega) (by rw [Tr.len]; omega) (Int.le_refl 0) (by rw [Tr.len]; decide) hs
        subst ij
        rw [e] at e2
        cases e2
      | @into _ b2 j k2 turn2 _ st' _ ps' e2 g0 g1 p' =>
        subst ht hr
        have wt2 := wfs_get h e2
        rw [Tr.wf] at wt2
        obtain ⟨q0, q1, _⟩ := p'.step wt2.2.2.2 (Int.le_refl 0) (by rw [Tr.len]; decide)
        have n0 : 0 ≤ turn2 * lens b2 := Int.mul_nonneg g0 (by omega)
        have n1 : turn2 * lens b2 + lens b2 ≤ k2 * lens b2 := by
          have := Int.mul_le_mul_of_nonneg_right (show turn2 + 1 ≤ k2 by omega) (show 0 ≤ lens b2 by omega)
          rw [Int.add_mul, Int.one_mul] at this
          exact this
        have ij := idx_unique h e e2 (show 0 ≤ turn * lens b' + st by omega) (by rw [Tr.len]; omega) (show 0 ≤ turn2 * lens b2 + st' by omega) (by rw [Tr.len]; omega) hs
        subst ij
        rw [e] at e2
        cases e2
        have et : turn = turn2 := by
          have hs2 : turn * lens b' + st = turn2 * lens b' + st' := by omega
          by_cases g : turn < turn2
          · have := Int.mul_le_mul_of_nonneg_right (show turn + 1 ≤ turn2 by omega) (show 0 ≤ lens b' by omega)
            rw [Int.add_mul, Int.one_mul] at this
            omega
          · by_cases g2 : turn2 < turn
            · have := Int.mul_le_mul_of_nonneg_right (show turn2 + 1 ≤ turn by omega) (show 0 ≤ lens b' by omega)
              rw [Int.add_mul, Int.one_mul] at this
              omega
            · omega
        subst et
        have es : st' = st := by omega
        subst es
        obtain ⟨i1, i2⟩ := ih wt.2.2.2 rfl rfl p'
        exact ⟨by rw [i1], i2⟩
theorem PT.ne {b : List Tr} {ps : List Int} {t : Tr} {r st : Int} (p : PT b ps t r st) : ps ≠ [] := by
  cases p <;> intro z <;> cases z
theorem cut_two (x y : V) (xs : List V) : cutV (x :: y :: xs) (some 2) none = xs := by
  unfold cutV
  rw [show HT.sIx (x :: y :: xs).length 0 (some 2) = min 2 (x :: y :: xs).length from HT.sIx_nat _ _ 2, HT.sIx_none, List.length_cons, List.length_cons, show min 2 (xs.length + 1 + 1) = 2 by omega]
  show xs.take (xs.length + 1 + 1 - 2) = xs
  rw [show xs.length + 1 + 1 - 2 = xs.length by omega]
  exact List.take_length
theorem cut_two_ne (x y : V) (xs : List V) : ¬ (HT.sIx (x :: y :: xs).length 0 (some 2) = 0 ∧ HT.sIx (x :: y :: xs).length (x :: y :: xs).length none = (x :: y :: xs).length) := by
  rw [show HT.sIx (x :: y :: xs).length 0 (some 2) = min 2 (x :: y :: xs).length from HT.sIx_nat _ _ 2, List.length_cons, List.length_cons, show min 2 (xs.length + 1 + 1) = 2 by omega]
  rintro ⟨h, _⟩
  cases h
/-- numbers of a path are bounded -/
theorem PT.small {b : List Tr} {ps : List Int} {t : Tr} {r st : Int} (p : PT b ps t r st) : ∀ {n : Nat}, wfs b n → b.length ≤ 1000 → ∀ m ∈ ps, 0 ≤ m ∧ m ≤ 10 ^ 18 := by
  induction p with
  | @here b i t r e =>
    intro n h hl m k
    have := (List.getElem?_eq_some_iff.mp e).1
    rw [List.mem_singleton.mp k]
    omega
  | @into b b' i k turn r st t ps e h0 h1 p ih =>
    intro n h hl m k'
    have := (List.getElem?_eq_some_iff.mp e).1
    have wt := wfs_get h e
    cases n with
    | zero => rw [Tr.wf] at wt; exact wt.elim
    | succ n =>
      rw [Tr.wf] at wt
      rcases List.mem_cons.mp k' with rfl | k'
      · omega
      · rcases List.mem_cons.mp k' with rfl | k'
        · omega
        · exact ih wt.2.2.2 wt.2.2.1 m k'
/-- the pair of a path and an instruction, shown -/
theorem pair_show {ps : List Int} {z : Str} {as : List Int} (hp : ∀ m ∈ ps, 0 ≤ m ∧ m ≤ 10 ^ 18) (hl : ps.length ≤ 100) (h : Short z as) : (PyData.tuple [.tuple (ps.map .int), Tr.datT (.op z as)]).showable = true ∧ (PyData.tuple [.tuple (ps.map .int), Tr.datT (.op z as)]).hasDict = false ∧
    (PyData.tuple [.tuple (ps.map .int), Tr.datT (.op z as)]).depth ≤ 64 ∧ (PyData.tuple [.tuple (ps.map .int), Tr.datT (.op z as)]).shown.length ≤ sizeLine := by
  have big : (10 ^ 18 : Nat) < 2 ^ 1000 := by decide +kernel
  obtain ⟨a1, a2, a3, a4, a5⟩ := leaf_all (leaf_ints (ns := ps) fun m k => by have := hp m k; omega)
  obtain ⟨b1, b2, b3, b4⟩ := Tr.made_show (G := Short) (R := fun _ => False) (fun _ _ h => h) (fun _ h => h.elim) (.op z as) 0 0 (by decide) (by rw [Tr.made]; exact h)
  have y := PySem.tupleText_len_le (PyData.shownAll (ps.map PyData.int))
  have x := PySem.tupleText_len_le [tupleText (PyData.shownAll (ps.map PyData.int)), PyData.shown (Tr.datT (.op z as))]
  rw [List.map_cons, List.map_cons, List.map_nil, List.sum_cons, List.sum_cons, List.sum_nil] at x
  rw [show ([tupleText (PyData.shownAll (ps.map PyData.int)), PyData.shown (Tr.datT (.op z as))] : List Str).length = 2 from rfl] at x
  rw [List.length_map] at a4 a5
  refine ⟨by rw [PyData.showable, PyData.showableAll, PyData.showable, a1, PyData.showableAll, b1, PyData.showableAll]; rfl, by rw [PyData.hasDict, PyData.hasDictAll, PyData.hasDict, a2, PyData.hasDictAll, b2, PyData.hasDictAll]; rfl,
    by rw [PyData.depth, PyData.depthAll, PyData.depth, a3, PyData.depthAll, PyData.depthAll]; omega, ?_⟩
  rw [PyData.shown, PyData.shownAll, PyData.shown, PyData.shownAll, PyData.shownAll, sizeLine_eq]
  have : sb 0 = 20000 := rfl
  omega
end Lj
set_option Elab.async false
set_option linter.all false
set_option maxRecDepth 100000
set_option pp.maxSteps 500
set_option pp.deepTerms.threshold 8
set_option pp.deepTerms false
namespace Lj
open PySem PySem.Spec PyProof.Rows L2
/-! ### rows, and what a step does to them -/
def gt (r : List Int) (i : Int) : Int := r.getD i.toNat 0
def sv (r : List Int) (i v : Int) : List Int := r.set i.toNat v
theorem sv_len (r : List Int) (i v : Int) : (sv r i v).length = r.length := List.length_set
theorem at_gt {r : List Int} {i : Int} (h0 : 0 ≤ i) (h : i < (r.length : Int)) : atI (r.map V.int) i = some (.int (gt r i)) := by
  have hk : i.toNat < r.length := by omega
  have ek : i = ((i.toNat : Nat) : Int) := by omega
  have q : atI (r.map V.int) ((i.toNat : Nat) : Int) = some (.int (gt r i)) := atI_nat (by
    rw [List.getElem?_map, List.getElem?_eq_getElem hk]
    unfold gt
    rw [List.getD_eq_getElem?_getD, List.getElem?_eq_getElem hk]
    rfl)
  rw [← ek] at q
  exact q
theorem ix_sv {α : Type} {r : List α} {i : Int} (h0 : 0 ≤ i) (h : i < (r.length : Int)) : ixN r.length i = some i.toNat := by
  unfold ixN
  rw [if_pos h0, if_pos h]
theorem map_sv (r : List Int) (i v : Int) : (r.map V.int).set i.toNat (.int v) = (sv r i v).map V.int := by
  unfold sv
  rw [List.map_set]
def exRow (p : Int) (w : Str) (as r : List Int) : List Int := match as with
  | [x, c] => if w = "set" then sv r (x + 1) (c * gt r 0 % p) else if w = "scale" then sv r (x + 1) (c * gt r (x + 1) % p)
    else if w = "copy" then sv r (x + 1) (gt r (c + 1)) else if w = "swap" then sv (sv r (x + 1) (gt r (c + 1))) (c + 1) (gt r (x + 1)) else r
  | [x, y, c] => sv r (x + 1) ((gt r (x + 1) + c * gt r (y + 1)) % p)
  | _ => r
theorem ex_set (p x c : Int) (r : List Int) : exRow p "set" [x, c] r = sv r (x + 1) (c * gt r 0 % p) := by
  unfold exRow
  exact if_pos rfl
theorem ex_scale (p x c : Int) (r : List Int) : exRow p "scale" [x, c] r = sv r (x + 1) (c * gt r (x + 1) % p) := by
  unfold exRow
  exact (if_neg (by decide)).trans (if_pos rfl)
theorem ex_copy (p x c : Int) (r : List Int) : exRow p "copy" [x, c] r = sv r (x + 1) (gt r (c + 1)) := by
  unfold exRow
  exact (if_neg (by decide)).trans ((if_neg (by decide)).trans (if_pos rfl))
theorem ex_swap (p x c : Int) (r : List Int) : exRow p "swap" [x, c] r = sv (sv r (x + 1) (gt r (c + 1))) (c + 1) (gt r (x + 1)) := by
  unfold exRow
  exact (if_neg (by decide)).trans ((if_neg (by decide)).trans ((if_neg (by decide)).trans (if_pos rfl)))
theorem ex_add (p x y c : Int) (r : List Int) : exRow p "add" [x, y, c] r = sv r (x + 1) ((gt r (x + 1) + c * gt r (y + 1)) % p) := rfl
theorem ex_write (p x : Int) (r : List Int) : exRow p "write" [x] r = r := rfl
theorem ex_len {p n : Int} {w : Str} {as r : List Int} (g : GoodOp p n w as) : (exRow p w as r).length = r.length := by
  rcases g with ⟨rfl | rfl, x, c, rfl, _⟩ | ⟨rfl | rfl, x, rfl, _⟩ | ⟨rfl | rfl, x, y, rfl, _⟩ | ⟨rfl, x, y, c, rfl, _⟩
  · rw [ex_set, sv_len]
  · rw [ex_scale, sv_len]
  · rfl
  · rfl
  · rw [ex_copy, sv_len]
  · rw [ex_swap, sv_len, sv_len]
  · rw [ex_add, sv_len]
/-- a run on its way -/
structure RS where
  row : List Int
  tk : Nat
  wr : List Int
def stp (p : Int) (is : List Int) (s : RS) : Tr → RS
  | .op w as => if w = "read" then ⟨sv s.row (as.headD 0 + 1) (is.getD s.tk 0), s.tk + 1, s.wr⟩ else if w = "write" then ⟨s.row, s.tk, s.wr ++ [gt s.row (as.headD 0 + 1)]⟩ else ⟨exRow p w as s.row, s.tk, s.wr⟩
  | .loop _ _ => s
def rns (p : Int) (is : List Int) (s : RS) (E : List Tr) : RS := E.foldl (stp p is) s
def run0 (rs : List Int) : RS := ⟨1 :: rs, 0, []⟩
theorem rns_nil (p : Int) (is : List Int) (s : RS) : rns p is s [] = s := rfl
theorem rns_append (p : Int) (is : List Int) (s : RS) (E F : List Tr) : rns p is s (E ++ F) = rns p is (rns p is s E) F := List.foldl_append
theorem rns_next {p : Int} {is : List Int} {s : RS} {E : List Tr} {i : Nat} {t : Tr} (e : E[i]? = some t) : rns p is s (E.take (i + 1)) = stp p is (rns p is s (E.take i)) t := by
  rw [List.take_add_one, e, rns_append]
  rfl
theorem stp_read (p : Int) (is : List Int) (s : RS) (as : List Int) : stp p is s (.op "read" as) = ⟨sv s.row (as.headD 0 + 1) (is.getD s.tk 0), s.tk + 1, s.wr⟩ := by
  unfold stp
  exact if_pos rfl
theorem stp_write (p : Int) (is : List Int) (s : RS) (as : List Int) : stp p is s (.op "write" as) = ⟨s.row, s.tk, s.wr ++ [gt s.row (as.headD 0 + 1)]⟩ := by
  unfold stp
  exact (if_neg (by decide)).trans (if_pos rfl)
theorem stp_else {p : Int} {is : List Int} {s : RS} {w : Str} {as : List Int} (h1 : w ≠ "read") (h2 : w ≠ "write") : stp p is s (.op w as) = ⟨exRow p w as s.row, s.tk, s.wr⟩ := by
  unfold stp
  exact (if_neg h1).trans (if_neg h2)
/-- good steps, and no others -/
def Goods (p n : Int) (E : List Tr) : Prop := ∀ t ∈ E, ∃ w as, t = .op w as ∧ GoodOp p n w as
theorem stp_len {p n : Int} {is : List Int} {s : RS} {w : Str} {as : List Int} (g : GoodOp p n w as) : (stp p is s (.op w as)).row.length = s.row.length := by
  by_cases h1 : w = "read"
  · subst h1
    rw [stp_read]
    exact sv_len _ _ _
  · by_cases h2 : w = "write"
    · subst h2
      rw [stp_write]
    · rw [stp_else h1 h2]
      exact ex_len g
theorem rns_len {p n : Int} {is : List Int} : ∀ {E : List Tr} {s : RS}, Goods p n E → (rns p is s E).row.length = s.row.length
  | [], _, _ => rfl
  | t :: r, s, g => by
    obtain ⟨w, as, rfl, go⟩ := g t List.mem_cons_self
    show (rns p is (stp p is s (.op w as)) r).row.length = _
    rw [rns_len (fun u m => g u (List.mem_cons_of_mem _ m)), stp_len go]
theorem stp_tk {p : Int} {is : List Int} {s : RS} {w : Str} {as : List Int} : ((stp p is s (.op w as)).tk : Int) = s.tk + rc [.op w as] := by
  by_cases h1 : w = "read"
  · subst h1
    rw [stp_read]
    rfl
  · have e : rc [.op w as] = 0 := by
      show ((([w].count ("read" : Str) : Nat)) : Int) = 0
      rw [List.count_eq_zero_of_not_mem (fun m => h1 (List.mem_singleton.mp m).symm)]
      rfl
    rw [e]
    by_cases h2 : w = "write"
    · subst h2
      rw [stp_write]
      exact (Int.add_zero _).symm
    · rw [stp_else h1 h2]
      exact (Int.add_zero _).symm
theorem rns_tk {p n : Int} {is : List Int} : ∀ {E : List Tr} {s : RS}, Goods p n E → ((rns p is s E).tk : Int) = s.tk + rc E
  | [], s, _ => (Int.add_zero _).symm
  | t :: r, s, g => by
    obtain ⟨w, as, rfl, go⟩ := g t List.mem_cons_self
    show ((rns p is (stp p is s (.op w as)) r).tk : Int) = _
    rw [rns_tk (fun u m => g u (List.mem_cons_of_mem _ m)), stp_tk, Int.add_assoc, ← rc_append]
    rfl
def wc (E : List Tr) : Nat := (E.map Tr.word).count ("write" : Str)
theorem wc_le (E : List Tr) : wc E ≤ E.length := by
  unfold wc
  exact Nat.le_trans List.count_le_length (by rw [List.length_map]; exact Nat.le_refl _)
theorem stp_wr {p : Int} {is : List Int} {s : RS} {w : Str} {as : List Int} : (stp p is s (.op w as)).wr.length = s.wr.length + wc [.op w as] := by
  by_cases h1 : w = "read"
  · subst h1
    rw [stp_read]
    rfl
  · by_cases h2 : w = "write"
    · subst h2
      rw [stp_write]
      show (s.wr ++ [_]).length = _
      rw [List.length_append]
      rfl
    · rw [stp_else h1 h2]
      have e : wc [.op w as] = 0 := List.count_eq_zero_of_not_mem (fun m => h2 (List.mem_singleton.mp m).symm)
      rw [e]
      rfl
theorem rns_wr {p n : Int} {is : List Int} : ∀ {E : List Tr} {s : RS}, Goods p n E → (rns p is s E).wr.length = s.wr.length + wc E
  | [], s, _ => rfl
  | t :: r, s, g => by
    obtain ⟨w, as, rfl, go⟩ := g t List.mem_cons_self
    show (rns p is (stp p is s (.op w as)) r).wr.length = _
    rw [rns_wr (fun u m => g u (List.mem_cons_of_mem _ m)), stp_wr, Nat.add_assoc]
    unfold wc
    rw [← List.count_append]
    rfl
theorem Goods.take {p n : Int} {E : List Tr} (g : Goods p n E) (i : Nat) : Goods p n (E.take i) := fun t m => g t (List.mem_of_mem_take m)
theorem rc_take (E : List Tr) (i : Nat) : rc (E.take i) ≤ rc E := by
  have h := rc_append (E.take i) (E.drop i)
  rw [List.take_append_drop] at h
  have := rc_nn (E.drop i)
  omega
/-- field elements -/
def In (p : Int) (r : List Int) : Prop := ∀ x ∈ r, 0 ≤ x ∧ x < p
theorem in_gt {p : Int} {r : List Int} (h : In p r) (p0 : 0 < p) (i : Int) : 0 ≤ gt r i ∧ gt r i < p := by
  unfold gt
  rw [List.getD_eq_getElem?_getD]
  cases e : r[i.toNat]? with
  | none => exact ⟨by show (0 : Int) ≤ 0; omega, p0⟩
  | some x => exact h x (List.mem_of_getElem? e)
theorem in_sv {p : Int} {r : List Int} {i v : Int} (h : In p r) (h0 : 0 ≤ v) (h1 : v < p) : In p (sv r i v) := fun x m => by
  rcases List.mem_or_eq_of_mem_set m with m | rfl
  · exact h x m
  · exact ⟨h0, h1⟩
theorem in_mod {p : Int} (p0 : 0 < p) (x : Int) : 0 ≤ x % p ∧ x % p < p := ⟨Int.emod_nonneg _ (by omega), Int.emod_lt_of_pos _ p0⟩
theorem in_ex {p n : Int} {w : Str} {as r : List Int} (g : GoodOp p n w as) (p0 : 0 < p) (h : In p r) : In p (exRow p w as r) := by
  rcases g with ⟨rfl | rfl, x, c, rfl, _⟩ | ⟨rfl | rfl, x, rfl, _⟩ | ⟨rfl | rfl, x, y, rfl, _⟩ | ⟨rfl, x, y, c, rfl, _⟩
  · rw [ex_set]
    exact in_sv h (in_mod p0 _).1 (in_mod p0 _).2
  · rw [ex_scale]
    exact in_sv h (in_mod p0 _).1 (in_mod p0 _).2
  · exact h
  · exact h
  · rw [ex_copy]
    exact in_sv h (in_gt h p0 _).1 (in_gt h p0 _).2
  · rw [ex_swap]
    exact in_sv (in_sv h (in_gt h p0 _).1 (in_gt h p0 _).2) (in_gt h p0 _).1 (in_gt h p0 _).2
  · rw [ex_add]
    exact in_sv h (in_mod p0 _).1 (in_mod p0 _).2
theorem in_getD {p : Int} {is : List Int} (h : In p is) (p0 : 0 < p) (k : Nat) : 0 ≤ is.getD k 0 ∧ is.getD k 0 < p := by
  rw [List.getD_eq_getElem?_getD]
  cases e : is[k]? with
  | none => exact ⟨by show (0 : Int) ≤ 0; omega, p0⟩
  | some x => exact h x (List.mem_of_getElem? e)
theorem in_stp {p n : Int} {is : List Int} {s : RS} {w : Str} {as : List Int} (g : GoodOp p n w as) (p0 : 0 < p) (hi : In p is) (h : In p s.row ∧ In p s.wr) : In p (stp p is s (.op w as)).row ∧ In p (stp p is s (.op w as)).wr := by
  by_cases h1 : w = "read"
  · subst h1
    rw [stp_read]
    exact ⟨in_sv h.1 (in_getD hi p0 _).1 (in_getD hi p0 _).2, h.2⟩
  · by_cases h2 : w = "write"
    · subst h2
      rw [stp_write]
      refine ⟨h.1, fun x m => ?_⟩
      rcases List.mem_append.mp m with m | m
      · exact h.2 x m
      · rw [List.mem_singleton.mp m]
        exact in_gt h.1 p0 _
    · rw [stp_else h1 h2]
      exact ⟨in_ex g p0 h.1, h.2⟩
theorem in_rns {p n : Int} {is : List Int} (p0 : 0 < p) (hi : In p is) : ∀ {E : List Tr} {s : RS}, Goods p n E → In p s.row ∧ In p s.wr → In p (rns p is s E).row ∧ In p (rns p is s E).wr
  | [], _, _, h => h
  | t :: r, s, g, h => by
    obtain ⟨w, as, rfl, go⟩ := g t List.mem_cons_self
    exact in_rns (E := r) p0 hi (fun u m => g u (List.mem_cons_of_mem _ m)) (in_stp go p0 hi h)
/-! ### the promise of executed -/
def spEx (K : PySem.W.Frag) : Sp := fun vs H Q _ => ∃ (p n : Int) (w : Str) (as : List Int) (v : V) (l : Addr) (r : List Int), vs = [.int p, v, .ref l] ∧ TrAt K H (.op w as) v ∧ GoodOp p n w as ∧ w ≠ "read" ∧ 2 ≤ p ∧ p ≤ 10007 ∧ SqL K H l (r.map V.int) ∧ (r.length : Int) = n + 1 ∧
  ∀ H' m, Same H H' → H m = none → H' m = some (.lst ((exRow p w as r).map V.int)) → Q (.ref m) H'
/-! ### the runner: an object -/
def rf (p : Int) (l g : Addr) (t : Int) (wl : Addr) : List (Str × V) := [("p", .int p), ("row", .ref l), ("given", .ref g), ("taken", .int t), ("written", .ref wl)]
section
variable (p : Int) (l g : Addr) (t : Int) (wl : Addr)
theorem rf_p : (rf p l g t wl).lookup ("p" : Str) = some (.int p) := rfl
theorem rf_row : (rf p l g t wl).lookup ("row" : Str) = some (.ref l) := rfl
theorem rf_given : (rf p l g t wl).lookup ("given" : Str) = some (.ref g) := rfl
theorem rf_taken : (rf p l g t wl).lookup ("taken" : Str) = some (.int t) := rfl
theorem rf_written : (rf p l g t wl).lookup ("written" : Str) = some (.ref wl) := rfl
theorem rf_perform : (rf p l g t wl).lookup ("perform" : Str) = none := rfl
theorem rf_put_row (m : Addr) : putF "row" (.ref m) (rf p l g t wl) = rf p m g t wl := rfl
theorem rf_put_taken (u : Int) : putF "taken" (.int u) (rf p l g t wl) = rf p l g u wl := rfl
theorem rf_make : putF "written" (.ref wl) (putF "taken" (.int t) (putF "given" (.ref g) (putF "row" (.ref l) (putF "p" (.int p) [])))) = rf p l g t wl := rfl
end
def RunAt (C : Addr) (H0 H : Hp) (x : Addr) (p : Int) (g : Addr) (s : RS) : Prop :=
  Same H0 H ∧ H0 x = none ∧ ∃ dx l wl, H0 l = none ∧ H0 wl = none ∧ l ≠ wl ∧ H x = some (.ins C dx (rf p l g s.tk wl)) ∧ H l = some (.lst (s.row.map V.int)) ∧ H wl = some (.lst (s.wr.map V.int))
structure RTxt (K : PySem.W.Frag) (mg : Str → Option Value) (C : Addr) : Prop where
  cl : Cls K C
  nP : NoAttr K C "p"
  nR : NoAttr K C "row"
  nG : NoAttr K C "given"
  nT : NoAttr K C "taken"
  nW : NoAttr K C "written"
  mgC : mg "Runner" = some (.ref C)
def spRInit (K : PySem.W.Frag) (C : Addr) : Sp := fun vs H Q _ => ∃ (H0 : Hp) (x dx rg g : Addr) (p : Int) (rs : List Int), vs = [.ref x, .int p, .ref rg, .ref g] ∧ Same H0 H ∧ H0 x = none ∧ H x = some (.ins C dx []) ∧ SqT K H0 rg (rs.map V.int) ∧ rs.length ≤ 100 ∧
  ∀ H', RunAt C H0 H' x p g (run0 rs) → Q .non H'
def spPerf (K : PySem.W.Frag) (C : Addr) : Sp := fun vs H Q _ => ∃ (H0 : Hp) (x g : Addr) (p n : Int) (s : RS) (v : V) (w : Str) (as is : List Int), vs = [.ref x, v] ∧ RunAt C H0 H x p g s ∧ TrAt K H0 (.op w as) v ∧ SqT K H0 g (is.map V.int) ∧ GoodOp p n w as ∧ 2 ≤ p ∧ p ≤ 10007 ∧
  (s.row.length : Int) = n + 1 ∧ (w = "read" → s.tk < is.length) ∧ s.wr.length ≤ 100000 ∧ ∀ H', RunAt C H0 H' x p g (stp p is s (.op w as)) → Q .non H'
def spUnr (K : PySem.W.Frag) (d : Nat) : Sp := spExec K d
def spRun (K : PySem.W.Frag) (d : Nat) : Sp := fun vs H Q _ => ∃ (p n : Int) (v : V) (b : List Tr) (rg g : Addr) (rs is : List Int), vs = [.int p, v, .ref rg, .ref g] ∧ BodyAt K H b v ∧ okB d b ∧ fines b ∧ (exs b).length ≤ 20000 ∧ Goods p n (exs b) ∧ 2 ≤ p ∧ p ≤ 10007 ∧ n ≤ 8 ∧
  SqT K H rg (rs.map V.int) ∧ (rs.length : Int) = n ∧ SqT K H g (is.map V.int) ∧ rc (exs b) ≤ is.length ∧
  ∀ H' t t1 t2, Same H H' → H t = none → H' t = some (.tup [.ref t1, .ref t2]) → H' t1 = some (.tup ((rns p is (run0 rs) (exs b)).row.tail.map V.int)) → H' t2 = some (.tup ((rns p is (run0 rs) (exs b)).wr.map V.int)) → Q (.ref t) H'
/-- the heap without some places -/
def wo (B : List Addr) (H : Hp) : Hp := fun b => if b ∈ B then none else H b
theorem wo_on {B : List Addr} {H : Hp} : Same (wo B H) H := fun b o h => by
  unfold wo at h
  split at h
  · cases h
  · exact h
theorem wo_at {B : List Addr} {H : Hp} {b : Addr} {o : HO} (e : H b = some o) (n : b ∉ B) : wo B H b = some o := by
  unfold wo
  rw [if_neg n]
  exact e
theorem wo_no {B : List Addr} {H : Hp} {b : Addr} (n : b ∈ B) : wo B H b = none := by
  unfold wo
  rw [if_pos n]
theorem wo_kt {B : List Addr} {H : Hp} (h : ∀ b ∈ B, (∃ C dx fs, H b = some (.ins C dx fs)) ∨ ∃ xs, H b = some (.lst xs)) : Kt H (wo B H) := fun a xs r => by
  have n : a ∉ B := fun m => by
    rcases h a m with ⟨C, dx, fs, e⟩ | ⟨ys, e⟩
    · rcases r with r | ⟨o, r⟩ <;> rw [e] at r <;> cases r
    · rcases r with r | ⟨o, r⟩ <;> rw [e] at r <;> cases r
  rcases r with r | ⟨o, r⟩
  · exact .inl (wo_at r n)
  · exact .inr ⟨o, wo_at r n⟩
end Lj
set_option Elab.async false
set_option linter.all false
set_option maxRecDepth 100000
set_option pp.maxSteps 500
set_option pp.deepTerms.threshold 8
set_option pp.deepTerms false
namespace Lj
open PySem PySem.Spec PyProof.Rows L2
/-! ### how much is executed, loops of at most r rounds -/
def mostR (r : Nat) : Nat → Nat → Nat
  | 0, _ => 1
  | d + 1, l => max 1 (r * ((l / 2) * mostR r d (l / 2)))
mutual
theorem Tr.made_exR {r : Nat} {G : Str → List Int → Prop} {R : Int → Prop} (hR : ∀ k, R k → 0 ≤ k ∧ k ≤ (r : Int)) : ∀ (t : Tr) (l d : Nat), t.made G R l d → t.ex.length ≤ mostR r d l
  | .op w as, l, 0, h => by rw [Tr.ex, mostR]; exact Nat.le_refl 1
  | .op w as, l, d + 1, h => by rw [Tr.ex, mostR]; exact Nat.le_max_left _ _
  | .loop k b, l, 0, h => by
    rw [Tr.made] at h
    exact h.elim
  | .loop k b, l, d + 1, h => by
    rw [Tr.made] at h
    have ih := mades_exR hR b (l / 2) d h.2.2
    have hk := hR k h.1
    rw [Tr.ex, mostR, List.length_flatten, List.map_replicate, List.sum_replicate_nat]
    refine Nat.le_trans ?_ (Nat.le_max_right _ _)
    have h1 : (exs b).length ≤ l / 2 * mostR r d (l / 2) := Nat.le_trans ih (Nat.mul_le_mul_right _ h.2.1)
    exact Nat.mul_le_mul (by omega) h1
theorem mades_exR {r : Nat} {G : Str → List Int → Prop} {R : Int → Prop} (hR : ∀ k, R k → 0 ≤ k ∧ k ≤ (r : Int)) : ∀ (b : List Tr) (l d : Nat), mades G R b l d → (exs b).length ≤ b.length * mostR r d l
  | [], _, _, _ => by rw [exs]; exact Nat.zero_le _
  | t :: q, l, d, h => by
    rw [mades] at h
    have h1 := Tr.made_exR hR t l d h.1
    have h2 := mades_exR hR q l d h.2
    rw [exs, List.length_append, List.length_cons, Nat.succ_mul]
    omega
end
theorem mostR0 (r : Nat) : ∀ d, mostR r d 0 = 1
  | 0 => rfl
  | d + 1 => by
    rw [mostR]
    show max 1 (r * (0 * _)) = 1
    rw [Nat.zero_mul, Nat.mul_zero]
    rfl
mutual
theorem Tr.made_fineR {r : Nat} {G : Str → List Int → Prop} {R : Int → Prop} (r1 : 1 ≤ r) (hG : ∀ w as, G w as → w ∈ W7) (hR : ∀ k, R k → 0 ≤ k ∧ k ≤ (r : Int)) : ∀ (t : Tr) (l d : Nat), max 1 l * mostR r d l ≤ 100000 → t.made G R l d → t.fine
  | .op w as, l, d, _, h => by
    rw [Tr.made] at h
    rw [Tr.fine]
    exact hG w as h
  | .loop k b, l, 0, _, h => by rw [Tr.made] at h; exact h.elim
  | .loop k b, l, d + 1, hb, h => by
    rw [Tr.made] at h
    rw [Tr.fine]
    have h1 : l / 2 * mostR r d (l / 2) ≤ 100000 := by
      have h0 : mostR r (d + 1) l ≤ 100000 := Nat.le_trans (Nat.le_mul_of_pos_left _ (by omega)) hb
      rw [mostR] at h0
      exact Nat.le_trans (Nat.le_mul_of_pos_left _ r1) (Nat.le_trans (Nat.le_max_right _ _) h0)
    have h2 := mades_exR hR b (l / 2) d h.2.2
    have h3 : b.length * mostR r d (l / 2) ≤ l / 2 * mostR r d (l / 2) := Nat.mul_le_mul_right _ h.2.1
    refine ⟨by omega, mades_fineR r1 hG hR b (l / 2) d ?_ h.2.2⟩
    by_cases z : l / 2 = 0
    · rw [z, mostR0]
      decide
    · rw [show max 1 (l / 2) = l / 2 by omega]
      omega
theorem mades_fineR {r : Nat} {G : Str → List Int → Prop} {R : Int → Prop} (r1 : 1 ≤ r) (hG : ∀ w as, G w as → w ∈ W7) (hR : ∀ k, R k → 0 ≤ k ∧ k ≤ (r : Int)) : ∀ (b : List Tr) (l d : Nat), max 1 l * mostR r d l ≤ 100000 → mades G R b l d → fines b
  | [], _, _, _, _ => by rw [fines]; trivial
  | t :: q, l, d, hl, h => by
    rw [mades] at h
    rw [fines]
    exact ⟨Tr.made_fineR r1 hG hR t l d hl h.1, mades_fineR r1 hG hR q l d hl h.2⟩
end
mutual
theorem Tr.made_ops {G : Str → List Int → Prop} {R : Int → Prop} : ∀ (t : Tr) (l d : Nat), t.made G R l d → ∀ x ∈ t.ex, ∃ z as, x = .op z as ∧ G z as
  | .op w as, l, d, h => by
    rw [Tr.made] at h
    rw [Tr.ex]
    intro t m
    exact ⟨w, as, List.mem_singleton.mp m, h⟩
  | .loop k b, l, 0, h => by rw [Tr.made] at h; exact h.elim
  | .loop k b, l, d + 1, h => by
    rw [Tr.made] at h
    rw [Tr.ex]
    intro t m
    obtain ⟨xs, m1, m2⟩ := List.mem_flatten.mp m
    rw [(List.mem_replicate.mp m1).2] at m2
    exact mades_ops b (l / 2) d h.2.2 t m2
theorem mades_ops {G : Str → List Int → Prop} {R : Int → Prop} : ∀ (b : List Tr) (l d : Nat), mades G R b l d → ∀ x ∈ exs b, ∃ z as, x = .op z as ∧ G z as
  | [], _, _, _ => by rw [exs]; intro t m; cases m
  | t :: r, l, d, h => by
    rw [mades] at h
    rw [exs]
    intro u m
    rcases List.mem_append.mp m with m | m
    · exact Tr.made_ops t l d h.1 u m
    · exact mades_ops r l d h.2 u m
end
/-- what a run returns -/
def res (p : Int) (E : List Tr) (h : List Int × List Int) : List Int × List Int := ((rns p h.2 (run0 h.1) E).row.tail, (rns p h.2 (run0 h.1) E).wr)
theorem res_len {p n : Int} {E : List Tr} {h : List Int × List Int} (g : Goods p n E) : (res p E h).1.length = h.1.length ∧ (res p E h).2.length = wc E := by
  refine ⟨?_, ?_⟩
  · show ((rns p h.2 (run0 h.1) E).row.tail).length = _
    rw [List.length_tail, rns_len g]
    show (1 :: h.1).length - 1 = _
    rw [List.length_cons, Nat.add_sub_cancel]
  · show (rns p h.2 (run0 h.1) E).wr.length = _
    rw [rns_wr g]
    exact Nat.zero_add _
theorem res_in {p n : Int} {E : List Tr} {h : List Int × List Int} (g : Goods p n E) (p0 : 2 ≤ p) (i1 : In p h.1) (i2 : In p h.2) : In p (res p E h).1 ∧ In p (res p E h).2 := by
  have z := in_rns (s := run0 h.1) (by omega : 0 < p) i2 g ⟨fun x m => by
    rcases List.mem_cons.mp m with rfl | m
    · exact ⟨by decide, by omega⟩
    · exact i1 x m, fun x m => absurd m List.not_mem_nil⟩
  exact ⟨fun x m => z.1 x (List.mem_of_mem_tail m), z.2⟩
/-! ### a history, or a result, in the heap: a pair of tuples -/
def HistAt (K : PySem.W.Frag) (H : Hp) (v : V) (h : List Int × List Int) : Prop := ∃ T t1 t2, v = .ref T ∧ SqT K H T [.ref t1, .ref t2] ∧ SqT K H t1 (h.1.map V.int) ∧ SqT K H t2 (h.2.map V.int)
theorem HistAt.kt {K : PySem.W.Frag} {H H' : Hp} {v : V} {h : List Int × List Int} (k : Kt H H') (x : HistAt K H v h) : HistAt K H' v h := by
  obtain ⟨T, t1, t2, e, a, b, c⟩ := x
  exact ⟨T, t1, t2, e, k.sq a, k.sq b, k.sq c⟩
def HistsAt (K : PySem.W.Frag) (H : Hp) : List V → List (List Int × List Int) → Prop
  | [], [] => True
  | v :: vs, h :: hs => HistAt K H v h ∧ HistsAt K H vs hs
  | _, _ => False
theorem HistsAt.kt {K : PySem.W.Frag} {H H' : Hp} (k : Kt H H') : ∀ {vs : List V} {hs : List (List Int × List Int)}, HistsAt K H vs hs → HistsAt K H' vs hs
  | [], [], _ => trivial
  | v :: vs, h :: hs, ⟨a, b⟩ => ⟨a.kt k, HistsAt.kt k b⟩
  | [], _ :: _, x => x.elim
  | _ :: _, [], x => x.elim
theorem HistsAt.snoc {K : PySem.W.Frag} {H : Hp} {v : V} {h : List Int × List Int} (a : HistAt K H v h) : ∀ {vs : List V} {hs : List (List Int × List Int)}, HistsAt K H vs hs → HistsAt K H (vs ++ [v]) (hs ++ [h])
  | [], [], _ => ⟨a, trivial⟩
  | _ :: _, _ :: _, ⟨x, y⟩ => ⟨x, HistsAt.snoc a y⟩
  | [], _ :: _, x => x.elim
  | _ :: _, [], x => x.elim
theorem HistsAt.get {K : PySem.W.Frag} {H : Hp} : ∀ {vs : List V} {hs : List (List Int × List Int)} {i : Nat} {v : V}, HistsAt K H vs hs → vs[i]? = some v → ∃ h, hs[i]? = some h ∧ HistAt K H v h
  | [], [], _, _, _, e => by simp at e
  | v :: vs, h :: hs, 0, _, ⟨a, _⟩, e => by
    cases e
    exact ⟨h, rfl, a⟩
  | v :: vs, h :: hs, i + 1, _, ⟨_, b⟩, e => HistsAt.get (i := i) b e
  | [], _ :: _, _, _, x, _ => x.elim
  | _ :: _, [], _, _, x, _ => x.elim
theorem HistsAt.length {K : PySem.W.Frag} {H : Hp} : ∀ {vs : List V} {hs : List (List Int × List Int)}, HistsAt K H vs hs → vs.length = hs.length
  | [], [], _ => rfl
  | _ :: _, _ :: _, ⟨_, b⟩ => by rw [List.length_cons, List.length_cons, HistsAt.length b]
  | [], _ :: _, x => x.elim
  | _ :: _, [], x => x.elim
def pairD (h : List Int × List Int) : PyData := .tuple [.tuple (h.1.map PyData.int), .tuple (h.2.map PyData.int)]
theorem HistAt.dp {K : PySem.W.Frag} {H : Hp} {v : V} {h : List Int × List Int} (x : HistAt K H v h) : Dp K H v (pairD h) := by
  obtain ⟨T, t1, t2, rfl, a, b, c⟩ := x
  exact .tup a (.cons (.tup b (dp_ints _)) (.cons (.tup c (dp_ints _)) .nil))
theorem leafs_tup {ns : List Int} (h : ∀ n ∈ ns, n.natAbs < 2 ^ 1000) : (PyData.tuple (ns.map PyData.int)).showable = true ∧ (PyData.tuple (ns.map PyData.int)).hasDict = false ∧ (PyData.tuple (ns.map PyData.int)).depth = 1 ∧ (PyData.tuple (ns.map PyData.int)).shown.length ≤ 1930 * ns.length + 100 := by
  obtain ⟨b1, b2, b3, b4, b5⟩ := leaf_all (leaf_ints h)
  refine ⟨by rw [PyData.showable]; exact b1, by rw [PyData.hasDict]; exact b2, by rw [PyData.depth, b3], ?_⟩
  rw [PyData.shown]
  have := PySem.tupleText_len_le (PyData.shownAll (ns.map PyData.int))
  rw [List.length_map] at b4 b5
  omega
theorem hpair_show {h : List Int × List Int} (h1 : ∀ n ∈ h.1, n.natAbs < 2 ^ 1000) (h2 : ∀ n ∈ h.2, n.natAbs < 2 ^ 1000) (l1 : h.1.length ≤ 2000) (l2 : h.2.length ≤ 2000) : (pairD h).showable = true ∧ (pairD h).hasDict = false ∧ (pairD h).depth ≤ 64 ∧ (pairD h).shown.length ≤ sizeLine := by
  obtain ⟨a1, a2, a3, a4⟩ := leafs_tup h1
  obtain ⟨b1, b2, b3, b4⟩ := leafs_tup h2
  unfold pairD
  refine ⟨by rw [PyData.showable, PyData.showableAll, PyData.showableAll, PyData.showableAll, a1, b1]; rfl, by rw [PyData.hasDict, PyData.hasDictAll, PyData.hasDictAll, PyData.hasDictAll, a2, b2]; rfl, by rw [PyData.depth, PyData.depthAll, PyData.depthAll, PyData.depthAll, a3, b3]; decide, ?_⟩
  rw [PyData.shown, PyData.shownAll, PyData.shownAll, PyData.shownAll, sizeLine_eq]
  have z := PySem.tupleText_len_le [PyData.shown (.tuple (h.1.map PyData.int)), PyData.shown (.tuple (h.2.map PyData.int))]
  rw [List.map_cons, List.map_cons, List.map_nil, List.sum_cons, List.sum_cons, List.sum_nil] at z
  rw [show ([PyData.shown (.tuple (h.1.map PyData.int)), PyData.shown (.tuple (h.2.map PyData.int))] : List Str).length = 2 from rfl] at z
  omega
theorem in_small {p : Int} {ns : List Int} (h : In p ns) (p1 : p ≤ 10007) : ∀ n ∈ ns, n.natAbs < 2 ^ 1000 := fun n m => by
  have := h n m
  have : (10007 : Nat) < 2 ^ 1000 := by decide +kernel
  omega
def spTupU (K : PySem.W.Frag) : Sp := fun vs H Q _ => ∃ (u : Addr) (q : Int) (n : Nat), vs = [.ref u, .int q, .int (n : Int)] ∧ Urn H u ∧ 2 ≤ q ∧ q ≤ 10007 ∧ n ≤ 1000 ∧
  ∀ ns H' t, ns.length = n → In q ns → SqT K H' t (ns.map V.int) → Urn H' u → But u H H' → Q (.ref t) H'
end Lj
set_option linter.all false
namespace Lj
/-! ### rows over the integers modulo p: combinations, spans, dimensions -/
abbrev Row := Nat → Int
def comb : List Int → List Row → Nat → Int
  | w :: ws, r :: R, i => w * r i + comb ws R i
  | _, _, _ => 0
/-- x is, in the places below L, a combination of R -/
def InSp (p : Int) (L : Nat) (R : List Row) (x : Row) : Prop := ∃ ws, ∀ i, i < L → p ∣ x i - comb ws R i
theorem comb_nil (ws : List Int) (i : Nat) : comb ws [] i = 0 := by cases ws <;> rfl
theorem comb_nilL (R : List Row) (i : Nat) : comb [] R i = 0 := by cases R <;> rfl
def scal (c : Int) : List Int → List Int
  | [] => []
  | w :: ws => c * w :: scal c ws
theorem comb_scal (c : Int) : ∀ (ws : List Int) (R : List Row) (i : Nat), comb (scal c ws) R i = c * comb ws R i
  | [], R, i => by rw [scal, comb_nilL, Int.mul_zero]
  | w :: ws, [], i => by rw [comb_nil, comb_nil, Int.mul_zero]
  | w :: ws, r :: R, i => by
    rw [scal, comb, comb, comb_scal c ws R i]
    grind
def plus : List Int → List Int → List Int
  | [], v => v
  | w, [] => w
  | a :: w, b :: v => (a + b) :: plus w v
theorem comb_plus : ∀ (ws vs : List Int) (R : List Row) (i : Nat), comb (plus ws vs) R i = comb ws R i + comb vs R i
  | [], v, R, i => by rw [plus, comb_nilL, Int.zero_add]
  | a :: w, [], R, i => by rw [plus, comb_nilL, Int.add_zero]; intro h; cases h
  | a :: w, b :: v, [], i => by rw [comb_nil, comb_nil, comb_nil]; rfl
  | a :: w, b :: v, r :: R, i => by
    rw [plus, comb, comb, comb, comb_plus w v R i]
    grind
section
variable {p : Int} {L : Nat}
theorem InSp.zero {R : List Row} {x : Row} (h : ∀ i, i < L → p ∣ x i) : InSp p L R x := ⟨[], fun i hi => by rw [comb_nilL, Int.sub_zero]; exact h i hi⟩
theorem InSp.lin {R : List Row} {x y z : Row} (a b : Int) (hx : InSp p L R x) (hy : InSp p L R y) (hz : ∀ i, i < L → p ∣ z i - (a * x i + b * y i)) : InSp p L R z := by
  obtain ⟨ws, hw⟩ := hx
  obtain ⟨vs, hv⟩ := hy
  refine ⟨plus (scal a ws) (scal b vs), fun i hi => ?_⟩
  rw [comb_plus, comb_scal, comb_scal]
  obtain ⟨k1, e1⟩ := hw i hi
  obtain ⟨k2, e2⟩ := hv i hi
  obtain ⟨k3, e3⟩ := hz i hi
  refine ⟨k3 + a * k1 + b * k2, ?_⟩
  grind
theorem InSp.cong {R : List Row} {x z : Row} (hx : InSp p L R x) (hz : ∀ i, i < L → p ∣ z i - x i) : InSp p L R z := by
  refine InSp.lin 1 0 hx hx fun i hi => ?_
  obtain ⟨k, e⟩ := hz i hi
  exact ⟨k, by grind⟩
theorem InSp.mem {r : Row} : ∀ {R : List Row}, r ∈ R → InSp p L R r
  | a :: R, h => by
    rcases List.mem_cons.mp h with rfl | h
    · refine ⟨[1], fun i _ => ?_⟩
      rw [comb, comb_nilL]
      exact ⟨0, by grind⟩
    · obtain ⟨ws, hw⟩ := InSp.mem h
      refine ⟨0 :: ws, fun i hi => ?_⟩
      rw [comb]
      obtain ⟨k, e⟩ := hw i hi
      exact ⟨k, by grind⟩
theorem InSp.of_comb {S : List Row} : ∀ {R : List Row} (ws : List Int), (∀ r ∈ R, InSp p L S r) → InSp p L S (comb ws R)
  | [], ws, _ => InSp.zero fun i _ => by rw [comb_nil]; exact Int.dvd_zero _
  | a :: R, [], _ => InSp.zero fun i _ => by rw [comb_nilL]; exact Int.dvd_zero _
  | a :: R, w :: ws, h => by
    refine InSp.lin w 1 (h a List.mem_cons_self) (InSp.of_comb ws fun r m => h r (List.mem_cons_of_mem _ m)) fun i _ => ?_
    rw [comb]
    exact ⟨0, by grind⟩
theorem InSp.into {R S : List Row} {x : Row} (hx : InSp p L R x) (h : ∀ r ∈ R, InSp p L S r) : InSp p L S x := by
  obtain ⟨ws, hw⟩ := hx
  exact (InSp.of_comb ws h).cong hw
theorem InSp.mono {R S : List Row} {x : Row} (hx : InSp p L R x) (h : ∀ r ∈ R, r ∈ S) : InSp p L S x := hx.into fun r m => InSp.mem (h r m)
theorem InSp.cons_iff {R : List Row} {a x : Row} : InSp p L (a :: R) x ↔ ∃ c : Int, InSp p L R fun i => x i - c * a i := by
  constructor
  · rintro ⟨ws, hw⟩
    cases ws with
    | nil =>
      refine ⟨0, InSp.zero fun i hi => ?_⟩
      have := hw i hi
      rw [comb_nilL, Int.sub_zero] at this
      rw [Int.zero_mul, Int.sub_zero]
      exact this
    | cons w ws =>
      refine ⟨w, ws, fun i hi => ?_⟩
      have := hw i hi
      rw [comb] at this
      rw [show x i - w * a i - comb ws R i = x i - (w * a i + comb ws R i) by omega]
      exact this
  · rintro ⟨c, h⟩
    refine InSp.lin 1 c (h.mono fun r m => List.mem_cons_of_mem _ m) (InSp.mem (r := a) List.mem_cons_self) fun i _ => ⟨0, by grind⟩
/-- p is a prime as far as inverses go -/
def PInv (p : Int) : Prop := 1 < p ∧ ∀ a : Int, ¬ p ∣ a → ∃ b : Int, p ∣ a * b - 1
theorem InSp.swap {R : List Row} {a b : Row} (hp : PInv p) (h : InSp p L (a :: R) b) (n : ¬ InSp p L R b) : InSp p L (b :: R) a := by
  obtain ⟨c, hc⟩ := InSp.cons_iff.mp h
  by_cases d : p ∣ c
  · refine absurd (hc.cong fun i _ => ?_) n
    obtain ⟨k, e⟩ := d
    exact ⟨k * a i, by grind⟩
  · obtain ⟨u, k, e⟩ := hp.2 c d
    refine InSp.lin u (-u) (InSp.mem (r := b) List.mem_cons_self) (hc.mono fun r m => List.mem_cons_of_mem _ m) fun i _ => ?_
    exact ⟨- k * a i, by grind⟩
theorem InSp.nil_iff {x : Row} : InSp p L [] x ↔ ∀ i, i < L → p ∣ x i := by
  constructor
  · rintro ⟨ws, h⟩ i hi
    have := h i hi
    rw [comb_nil, Int.sub_zero] at this
    exact this
  · exact InSp.zero
/-! ### dimension, counted from the front -/
open Classical in
theorem one_iff {P Q : Prop} (h : P ↔ Q) : (if P then 0 else 1 : Nat) = if Q then 0 else 1 := by
  by_cases p : P
  · rw [if_pos p, if_pos (h.mp p)]
  · rw [if_neg p, if_neg fun q => p (h.mpr q)]
open Classical in
noncomputable def dimA (p : Int) (L : Nat) (A : List Row) : List Row → Nat
  | [] => 0
  | r :: R => (if InSp p L A r then 0 else 1) + dimA p L (r :: A) R
noncomputable def dim (p : Int) (L : Nat) (R : List Row) : Nat := dimA p L [] R
theorem dimA_cong : ∀ (R : List Row) {A B : List Row}, (∀ x, InSp p L A x ↔ InSp p L B x) → dimA p L A R = dimA p L B R
  | [], _, _, _ => rfl
  | r :: R, A, B, h => by
    rw [dimA, dimA]
    rw [one_iff (h r)]
    rw [dimA_cong R (A := r :: A) (B := r :: B) fun x => ?_]
    rw [InSp.cons_iff, InSp.cons_iff]
    exact ⟨fun ⟨c, z⟩ => ⟨c, (h _).mp z⟩, fun ⟨c, z⟩ => ⟨c, (h _).mpr z⟩⟩
theorem sp_perm2 {A : List Row} {a b x : Row} (h : InSp p L (a :: b :: A) x) : InSp p L (b :: a :: A) x := h.mono fun r m => by
  simp only [List.mem_cons] at m ⊢
  rcases m with m | m | m
  · exact .inr (.inl m)
  · exact .inl m
  · exact .inr (.inr m)
theorem dimA_swap (hp : PInv p) (A R : List Row) (a b : Row) : dimA p L A (a :: b :: R) = dimA p L A (b :: a :: R) := by
  rw [dimA, dimA, dimA, dimA]
  rw [dimA_cong R (A := b :: a :: A) (B := a :: b :: A) fun x => ⟨sp_perm2, sp_perm2⟩]
  have m1 : InSp p L A b → InSp p L (a :: A) b := fun h => h.mono fun r m => List.mem_cons_of_mem _ m
  have m2 : InSp p L A a → InSp p L (b :: A) a := fun h => h.mono fun r m => List.mem_cons_of_mem _ m
  by_cases ha : InSp p L A a
  · by_cases hb : InSp p L A b
    · simp only [if_pos ha, if_pos hb, if_pos (m1 hb), if_pos (m2 ha)]
    · have n : ¬ InSp p L (a :: A) b := fun z => hb (z.into fun r m => by
        rcases List.mem_cons.mp m with rfl | m
        · exact ha
        · exact InSp.mem m)
      simp only [if_pos ha, if_neg hb, if_neg n, if_pos (m2 ha)]
      omega
  · by_cases hb : InSp p L A b
    · have n : ¬ InSp p L (b :: A) a := fun z => ha (z.into fun r m => by
        rcases List.mem_cons.mp m with rfl | m
        · exact hb
        · exact InSp.mem m)
      simp only [if_neg ha, if_pos hb, if_pos (m1 hb), if_neg n]
      omega
    · by_cases h : InSp p L (a :: A) b
      · simp only [if_neg ha, if_neg hb, if_pos h, if_pos (h.swap hp hb)]
      · have n : ¬ InSp p L (b :: A) a := fun z => h (z.swap hp ha)
        simp only [if_neg ha, if_neg hb, if_neg h, if_neg n]
theorem dimA_front (hp : PInv p) : ∀ (R A : List Row) (r : Row), dimA p L A (R ++ [r]) = dimA p L A (r :: R)
  | [], A, r => rfl
  | a :: R, A, r => by
    rw [dimA_swap hp, List.cons_append, dimA, dimA_front hp R (a :: A) r]
    conv => rhs; rw [dimA]
open Classical in
theorem dimA_back : ∀ (R A : List Row) (r : Row), dimA p L A (R ++ [r]) = dimA p L A R + (if InSp p L (R ++ A) r then 0 else 1)
  | [], A, r => by
    show dimA p L A [r] = dimA p L A [] + _
    rw [dimA, dimA, dimA]
    simp
  | a :: R, A, r => by
    rw [List.cons_append, dimA, dimA_back R (a :: A) r, dimA]
    have e : InSp p L (R ++ a :: A) r = InSp p L (a :: R ++ A) r := propext (by
      have k : ∀ {S T : List Row}, (∀ x, x ∈ S → x ∈ T) → InSp p L S r → InSp p L T r := fun h z => z.mono h
      exact ⟨k (by intro x m; simp only [List.cons_append, List.mem_cons, List.mem_append] at m ⊢; rcases m with m | m | m <;> simp [m]), k (by intro x m; simp only [List.cons_append, List.mem_cons, List.mem_append] at m ⊢; rcases m with m | m | m <;> simp [m])⟩)
    simp only [e]
    omega
open Classical in
theorem dim_back (R : List Row) (r : Row) : dim p L (R ++ [r]) = dim p L R + (if InSp p L R r then 0 else 1) := by
  have := dimA_back (p := p) (L := L) R [] r
  rw [List.append_nil] at this
  exact this
theorem dim_zero (hp : PInv p) {R : List Row} {r : Row} (h : ∀ i, i < L → p ∣ r i) : dim p L (R ++ [r]) = dim p L R := by
  rw [dim_back, if_pos (InSp.zero h)]
  rfl
/-- f takes a multiple of r away, such that place k becomes 0 -/
theorem sp_red {r : Row} {f : Row → Row} {k : Nat} (hp : PInv p) (hk : k < L) (hr : ¬ p ∣ r k) (hf : ∀ x, ∃ c : Int, ∀ i, i < L → p ∣ f x i - (x i - c * r i)) (h0 : ∀ x, p ∣ f x k) {A : List Row} {x : Row} :
    InSp p L (A ++ [r]) x ↔ InSp p L (A.map f) (f x) := by
  constructor
  · intro h
    -- all in terms of f and r
    have h1 : InSp p L (r :: A.map f) (f x) := by
      obtain ⟨c, hc⟩ := hf x
      refine InSp.lin (x := x) (y := r) 1 (-c) (h.into fun a m => ?_) (InSp.mem List.mem_cons_self) fun i hi => ?_
      · rcases List.mem_append.mp m with m | m
        · obtain ⟨c, hc⟩ := hf a
          refine InSp.lin (x := f a) (y := r) 1 c (InSp.mem (List.mem_cons_of_mem _ (List.mem_map_of_mem m))) (InSp.mem List.mem_cons_self) fun i hi => ?_
          obtain ⟨u, e⟩ := hc i hi
          exact ⟨-u, by grind⟩
        · rw [List.mem_singleton.mp m]
          exact InSp.mem List.mem_cons_self
      · obtain ⟨u, e⟩ := hc i hi
        exact ⟨u, by grind⟩
    obtain ⟨c, hc⟩ := InSp.cons_iff.mp h1
    have key : p ∣ c * r k := by
      obtain ⟨ws, hw⟩ := hc
      obtain ⟨u, e⟩ := hw k hk
      obtain ⟨v, e2⟩ := h0 x
      have z : ∀ (B : List Row) (ws : List Int), p ∣ comb ws (B.map f) k := by
        intro B
        induction B with
        | nil =>
          intro ws
          show p ∣ comb ws [] k
          rw [comb_nil]
          exact Int.dvd_zero _
        | cons b B ih =>
          intro ws
          cases ws with
          | nil => rw [comb_nilL]; exact Int.dvd_zero _
          | cons w ws =>
            rw [List.map_cons, comb]
            exact Int.dvd_add (Int.dvd_mul_of_dvd_right (h0 b)) (ih ws)
      obtain ⟨t, e3⟩ := z A ws
      exact ⟨v - u - t, by grind⟩
    have hc0 : p ∣ c := by
      obtain ⟨b, m, e⟩ := hp.2 _ hr
      obtain ⟨n, e2⟩ := key
      exact ⟨n * b - c * m, by grind⟩
    refine hc.cong fun i _ => ?_
    obtain ⟨n, e⟩ := hc0
    exact ⟨n * r i, by grind⟩
  · intro h
    obtain ⟨c, hc⟩ := hf x
    refine InSp.lin (x := f x) (y := r) 1 c (h.into fun b m => ?_) (InSp.mem (List.mem_append_right _ List.mem_cons_self)) fun i hi => ?_
    · obtain ⟨a, ma, rfl⟩ := List.mem_map.mp m
      obtain ⟨c, hc⟩ := hf a
      refine InSp.lin (x := a) (y := r) 1 (-c) (InSp.mem (List.mem_append_left _ ma)) (InSp.mem (List.mem_append_right _ List.mem_cons_self)) fun i hi => ?_
      obtain ⟨u, e⟩ := hc i hi
      exact ⟨u, by grind⟩
    · obtain ⟨u, e⟩ := hc i hi
      exact ⟨-u, by grind⟩
theorem dimA_red {r : Row} {f : Row → Row} {k : Nat} (hp : PInv p) (hk : k < L) (hr : ¬ p ∣ r k) (hf : ∀ x, ∃ c : Int, ∀ i, i < L → p ∣ f x i - (x i - c * r i)) (h0 : ∀ x, p ∣ f x k) : ∀ (R A : List Row), dimA p L (A ++ [r]) R = dimA p L (A.map f) (R.map f)
  | [], A => rfl
  | a :: R, A => by
    rw [dimA, List.map_cons, dimA]
    have ih := dimA_red hp hk hr hf h0 R (a :: A)
    rw [List.cons_append, List.map_cons] at ih
    rw [ih]
    rw [one_iff (sp_red hp hk hr hf h0)]
theorem dim_red {r : Row} {f : Row → Row} {k : Nat} (hp : PInv p) (hk : k < L) (hr : ¬ p ∣ r k) (hf : ∀ x, ∃ c : Int, ∀ i, i < L → p ∣ f x i - (x i - c * r i)) (h0 : ∀ x, p ∣ f x k) (R : List Row) : dim p L (R ++ [r]) = 1 + dim p L (R.map f) := by
  unfold dim
  rw [dimA_front hp, dimA, if_neg fun z => hr (InSp.nil_iff.mp z k hk)]
  have := dimA_red hp hk hr hf h0 R []
  rw [List.nil_append] at this
  rw [this]
  rfl
end
end Lj
set_option linter.all false
namespace Lj
/-! ### inverses by powers, as the law finds them -/
def pmg : Nat → Nat → Nat → Nat → Nat → Nat
  | 0, _, f, _, _ => f
  | n + 1, q, f, b, l => bif Nat.beq l 0 then f else pmg n q (bif Nat.beq (l % 2) 1 then f * b % q else f) (b * b % q) (l / 2)
def prsN : List Nat := [2, 3, 5, 7, 11, 13, 97, 251, 9973, 10007]
def pmOk (q : Nat) : Bool := (List.range q).all fun a => Nat.beq a 0 || Nat.beq (a * pmg 14 q 1 a (q - 2) % q) 1
theorem pm_ok : (prsN.all pmOk) = true := by decide +kernel
theorem pmg_zero (n q f b : Nat) : pmg n q f b 0 = f := by
  cases n with
  | zero => rfl
  | succ n => rfl
theorem pmg_step (n q f b l : Nat) (h : l ≠ 0) : pmg (n + 1) q f b l = pmg n q (if l % 2 = 1 then f * b % q else f) (b * b % q) (l / 2) := by
  rw [pmg]
  have e : Nat.beq l 0 = false := by
    cases z : Nat.beq l 0 with
    | false => rfl
    | true => exact absurd (Nat.eq_of_beq_eq_true z) h
  rw [e]
  by_cases c : l % 2 = 1
  · rw [if_pos c, c]
    rfl
  · have e2 : Nat.beq (l % 2) 1 = false := by
      cases z : Nat.beq (l % 2) 1 with
      | false => rfl
      | true => exact absurd (Nat.eq_of_beq_eq_true z) c
    rw [if_neg c, e2]
    rfl
theorem pm_inv {q a : Nat} (hq : q ∈ prsN) (h0 : 0 < a) (h1 : a < q) : a * pmg 14 q 1 a (q - 2) % q = 1 := by
  have k := List.all_eq_true.mp (List.all_eq_true.mp pm_ok q hq) a (List.mem_range.mpr h1)
  rw [Bool.or_eq_true] at k
  rcases k with k | k
  · exact absurd (Nat.eq_of_beq_eq_true k) (by omega)
  · exact Nat.eq_of_beq_eq_true k
theorem pinv_prs {q : Int} (hq : q ∈ prsN.map fun n : Nat => (n : Int)) : PInv q := by
  obtain ⟨n, hn, rfl⟩ := List.mem_map.mp hq
  have n1 : 1 < n := by
    have z : (prsN.all fun n => decide (1 < n)) = true := by decide
    exact of_decide_eq_true (List.all_eq_true.mp z n hn)
  refine ⟨by omega, fun a ha => ?_⟩
  have m0 := Int.emod_nonneg a (show (n : Int) ≠ 0 by omega)
  have m1 := Int.emod_lt_of_pos a (show (0 : Int) < n by omega)
  have mz : a % n ≠ 0 := fun z => ha (Int.dvd_of_emod_eq_zero z)
  have k := pm_inv hn (a := (a % n).toNat) (by omega) (by omega)
  generalize pmg 14 n 1 (a % n).toNat (n - 2) = b at k
  refine ⟨(b : Int), ?_⟩
  have e1 : ((a % n).toNat * b : Nat) = n * ((a % n).toNat * b / n) + 1 := by
    have := Nat.div_add_mod ((a % n).toNat * b) n
    omega
  have e3 : (((a % n).toNat : Nat) : Int) = a % n := Int.toNat_of_nonneg m0
  generalize (a % n).toNat * b / n = z at e1
  have e2 : (a % n) * (b : Int) = (n : Int) * (z : Int) + 1 := by
    rw [← e3, ← Int.natCast_mul, e1, Int.natCast_add, Int.natCast_mul]
    rfl
  have e4 := Int.emod_def a n
  rw [e4] at e2
  exact ⟨(z : Int) + a / n * b, by grind⟩
/-! ### sums, dot products -/
def sumF (f : Nat → Int) : Nat → Int
  | 0 => 0
  | n + 1 => sumF f n + f n
theorem sumF_cong {f g : Nat → Int} : ∀ {n : Nat}, (∀ k, k < n → f k = g k) → sumF f n = sumF g n
  | 0, _ => rfl
  | n + 1, h => by rw [sumF, sumF, sumF_cong fun k hk => h k (Nat.lt_succ_of_lt hk), h n (Nat.lt_succ_self n)]
theorem sumF_add (f : Nat → Int) (a : Nat) : ∀ b : Nat, sumF f (a + b) = sumF f a + sumF (fun i => f (a + i)) b
  | 0 => by rw [sumF, Nat.add_zero, Int.add_zero]
  | b + 1 => by rw [← Nat.add_assoc, sumF, sumF_add f a b, sumF]; omega
theorem sumF_zero {f : Nat → Int} : ∀ {n : Nat}, (∀ k, k < n → f k = 0) → sumF f n = 0
  | 0, _ => rfl
  | n + 1, h => by rw [sumF, sumF_zero fun k hk => h k (Nat.lt_succ_of_lt hk), h n (Nat.lt_succ_self n)]; rfl
theorem sumF_dvd {p : Int} {f g : Nat → Int} : ∀ {n : Nat}, (∀ k, k < n → p ∣ f k - g k) → p ∣ sumF f n - sumF g n
  | 0, _ => ⟨0, by rw [sumF, sumF]; omega⟩
  | n + 1, h => by
    obtain ⟨a, ha⟩ := sumF_dvd (n := n) fun k hk => h k (Nat.lt_succ_of_lt hk)
    obtain ⟨b, hb⟩ := h n (Nat.lt_succ_self n)
    exact ⟨a + b, by rw [sumF, sumF]; grind⟩
theorem sumF_lin (a b : Int) (f g : Nat → Int) : ∀ n : Nat, sumF (fun k => a * f k + b * g k) n = a * sumF f n + b * sumF g n
  | 0 => by rw [sumF, sumF, sumF]; omega
  | n + 1 => by rw [sumF, sumF, sumF, sumF_lin a b f g n]; grind
def dot (n : Nat) (e v : Nat → Int) : Int := sumF (fun k => e k * v k) n
theorem dot_lin {p a b : Int} {n : Nat} {e f g v : Nat → Int} (h : ∀ k, k < n → p ∣ e k - (a * f k + b * g k)) : p ∣ dot n e v - (a * dot n f v + b * dot n g v) := by
  unfold dot
  rw [← sumF_lin]
  refine sumF_dvd fun k hk => ?_
  obtain ⟨m, hm⟩ := h k hk
  exact ⟨m * v k, by grind⟩
/-- e begins at c, with 1 -/
def Begins (c : Nat) (e : Nat → Int) : Prop := (∀ k, k < c → e k = 0) ∧ e c = 1
theorem dot_begins {n c : Nat} {e v : Nat → Int} (h : Begins c e) (hc : c < n) : dot n e v = v c + sumF (fun i => e (c + 1 + i) * v (c + 1 + i)) (n - (c + 1)) := by
  unfold dot
  obtain ⟨m, rfl⟩ : ∃ m, n = c + 1 + m := ⟨n - (c + 1), by omega⟩
  rw [sumF_add, sumF, sumF_zero fun k hk => by rw [h.1 k hk, Int.zero_mul], h.2, show c + 1 + m - (c + 1) = m by omega]
  omega
theorem dot_last {n c : Nat} {e v : Nat → Int} (h : Begins c e) (hc : c < n) (hv : ∀ k, c < k → k < n → v k = 0) : dot n e v = v c := by
  rw [dot_begins h hc, sumF_zero fun k hk => by rw [hv _ (by omega) (by omega), Int.mul_zero]]
  omega
/-! ### weights of rows: what the equations say -/
/-- the weights ws, then -1 -/
def ext (m : Nat) (w : Nat → Int) : Nat → Int := fun k => if k < m then w k else -1
/-- the sum of rows by index -/
theorem comb_sum : ∀ (ws : List Int) (R : List Row) (i : Nat), ws.length = R.length → comb ws R i = sumF (fun k => (R.getD k fun _ => 0) i * ws.getD k 0) R.length
  | [], [], i, _ => rfl
  | w :: ws, r :: R, i, h => by
    rw [comb, comb_sum ws R i (by simpa using h), List.length_cons, Nat.add_comm R.length 1, sumF_add, sumF, sumF]
    simp only [Nat.add_comm 1, List.getD_cons_succ, List.getD_cons_zero]
    grind
/-- a combination may be given as many weights as there are rows -/
theorem comb_pad : ∀ (ws : List Int) (R : List Row), ∃ vs : List Int, vs.length = R.length ∧ ∀ i, comb vs R i = comb ws R i
  | ws, [] => ⟨[], rfl, fun i => by rw [comb_nil, comb_nil]⟩
  | [], r :: R => by
    obtain ⟨vs, h, e⟩ := comb_pad [] R
    refine ⟨0 :: vs, by simp [h], fun i => ?_⟩
    rw [comb, e, comb_nilL, comb_nilL]
    omega
  | w :: ws, r :: R => by
    obtain ⟨vs, h, e⟩ := comb_pad ws R
    refine ⟨w :: vs, by simp [h], fun i => ?_⟩
    rw [comb, comb, e]
theorem InSp.sum {p : Int} {L : Nat} {R : List Row} {x : Row} : InSp p L R x ↔ ∃ w : Nat → Int, ∀ i, i < L → p ∣ x i - sumF (fun k => (R.getD k fun _ => 0) i * w k) R.length := by
  constructor
  · rintro ⟨ws, h⟩
    obtain ⟨vs, hl, e⟩ := comb_pad ws R
    refine ⟨fun k => vs.getD k 0, fun i hi => ?_⟩
    rw [← comb_sum vs R i hl, e]
    exact h i hi
  · rintro ⟨w, h⟩
    refine ⟨(List.range R.length).map w, fun i hi => ?_⟩
    rw [comb_sum _ R i (by simp)]
    have e : sumF (fun k => (R.getD k fun _ => 0) i * ((List.range R.length).map w).getD k 0) R.length = sumF (fun k => (R.getD k fun _ => 0) i * w k) R.length := sumF_cong fun k hk => by
      rw [List.getD_eq_getElem?_getD (l := (List.range R.length).map w), List.getElem?_map, List.getElem?_range hk]
      rfl
    rw [e]
    exact h i hi
/-- the coefficients of place i: one for each row, then the right side -/
def eqn (R : List Row) (x : Row) (i : Nat) : Nat → Int := fun k => if k < R.length then (R.getD k fun _ => 0) i else x i
theorem dot_eqn (R : List Row) (x : Row) (i : Nat) (w : Nat → Int) : dot (R.length + 1) (eqn R x i) (ext R.length w) = sumF (fun k => (R.getD k fun _ => 0) i * w k) R.length - x i := by
  unfold dot
  rw [sumF]
  have e : sumF (fun k => eqn R x i k * ext R.length w k) R.length = sumF (fun k => (R.getD k fun _ => 0) i * w k) R.length := sumF_cong fun k hk => by
    unfold eqn ext
    rw [if_pos hk, if_pos hk]
  rw [e]
  unfold eqn ext
  rw [if_neg (Nat.lt_irrefl _), if_neg (Nat.lt_irrefl _)]
  omega
/-- what is known of the leading equations: lead c e says that e leads at c -/
structure Lead (p : Int) (R : List Row) (x : Row) (L : Nat) (lead : Nat → (Nat → Int) → Prop) : Prop where
  bg : ∀ c e, lead c e → c ≤ R.length ∧ Begins c e
  same : ∀ v : Nat → Int, (∀ i, i < L → p ∣ dot (R.length + 1) (eqn R x i) v) ↔ ∀ c e, lead c e → p ∣ dot (R.length + 1) e v
theorem Lead.none {p : Int} {R : List Row} {x : Row} {L : Nat} {lead : Nat → (Nat → Int) → Prop} (h : Lead p R x L lead) (hp : 1 < p) {e : Nat → Int} (k : lead R.length e) : ¬ InSp p L R x := by
  intro z
  obtain ⟨w, hw⟩ := InSp.sum.mp z
  have y := (h.same (ext R.length w)).mp (fun i hi => by
    rw [dot_eqn]
    obtain ⟨a, ha⟩ := hw i hi
    exact ⟨-a, by grind⟩) _ _ k
  rw [dot_last (h.bg _ _ k).2 (by omega) (fun j h1 h2 => by omega)] at y
  unfold ext at y
  rw [if_neg (Nat.lt_irrefl _)] at y
  obtain ⟨a, ha⟩ := y
  have : p ∣ 1 := ⟨-a, by grind⟩
  have := Int.le_of_dvd (by decide) this
  omega
theorem Lead.some {p : Int} {R : List Row} {x : Row} {L : Nat} {lead : Nat → (Nat → Int) → Prop} (h : Lead p R x L lead) {w : Nat → Int} (k : ∀ c e, lead c e → p ∣ dot (R.length + 1) e (ext R.length w)) : ∀ i, i < L → p ∣ x i - sumF (fun k => (R.getD k fun _ => 0) i * w k) R.length := by
  intro i hi
  have y := (h.same _).mpr k i hi
  rw [dot_eqn] at y
  obtain ⟨a, ha⟩ := y
  exact ⟨-a, by grind⟩
theorem Lead.new {p : Int} {R : List Row} {x : Row} {L : Nat} {lead : Nat → (Nat → Int) → Prop} (h : Lead p R x L lead) (hp : 1 < p) {c : Nat} {e : Nat → Int} (k : lead c e) (hc : c < R.length) : ¬ InSp p L (R.take c) (R.getD c fun _ => 0) := by
  intro z
  obtain ⟨w, hw⟩ := InSp.sum.mp z
  have lt : (R.take c).length = c := by rw [List.length_take]; omega
  rw [lt] at hw
  have y := (h.same (fun j => if j < c then w j else if j = c then -1 else 0)).mp (fun i hi => by
    obtain ⟨a, ha⟩ := hw i hi
    have e0 : dot (R.length + 1) (eqn R x i) (fun j => if j < c then w j else if j = c then -1 else 0) = sumF (fun k => ((R.take c).getD k fun _ => 0) i * w k) c - (R.getD c fun _ => 0) i := by
      unfold dot
      obtain ⟨m, hm⟩ : ∃ m, R.length + 1 = c + 1 + m := ⟨R.length - c, by omega⟩
      rw [hm, sumF_add, sumF]
      have z1 : sumF (fun i_1 => eqn R x i (c + 1 + i_1) * if c + 1 + i_1 < c then w (c + 1 + i_1) else if c + 1 + i_1 = c then -1 else 0) m = 0 := sumF_zero fun k _ => by
        rw [if_neg (by omega), if_neg (by omega), Int.mul_zero]
      have z2 : sumF (fun k => eqn R x i k * if k < c then w k else if k = c then -1 else 0) c = sumF (fun k => ((R.take c).getD k fun _ => 0) i * w k) c := sumF_cong fun k hk => by
        rw [if_pos hk]
        unfold eqn
        rw [if_pos (by omega), List.getD_eq_getElem?_getD, List.getD_eq_getElem?_getD, List.getElem?_take_of_lt hk]
      rw [z1, z2]
      have z3 : (if c < c then w c else if c = c then -1 else 0 : Int) = -1 := by rw [if_neg (Nat.lt_irrefl _), if_pos rfl]
      have z4 : eqn R x i c = (R.getD c fun _ => 0) i := by
        unfold eqn
        rw [if_pos hc]
      show _ + eqn R x i c * (if c < c then w c else if c = c then -1 else 0) + 0 = _
      rw [z3, z4]
      omega
    exact ⟨-a, by rw [e0]; grind⟩) _ _ k
  rw [dot_last (h.bg _ _ k).2 (by omega) (fun j h1 h2 => by rw [if_neg (by omega), if_neg (by omega)]), if_neg (Nat.lt_irrefl _), if_pos rfl] at y
  obtain ⟨a, ha⟩ := y
  have : p ∣ 1 := ⟨-a, by grind⟩
  have := Int.le_of_dvd (by decide) this
  omega
/-! ### weights are unique -/
/-- the weights of x: field elements, 0 where a row is a combination of those before it -/
structure Wts (p : Int) (L : Nat) (R : List Row) (x : Row) (w : List Int) : Prop where
  len : w.length = R.length
  bd : ∀ a ∈ w, 0 ≤ a ∧ a < p
  sum : ∀ i, i < L → p ∣ x i - sumF (fun k => (R.getD k fun _ => 0) i * w.getD k 0) R.length
  nz : ∀ c, c < R.length → w.getD c 0 ≠ 0 → ¬ InSp p L (R.take c) (R.getD c fun _ => 0)
theorem Wts.uniq {p : Int} {L : Nat} {R : List Row} {x : Row} {w u : List Int} (hp : PInv p) (a : Wts p L R x w) (b : Wts p L R x u) : w = u := by
  refine Classical.byContradiction fun ne => ?_
  -- the last place where they differ
  have key : ∀ n, n ≤ R.length → (∀ k, n ≤ k → k < R.length → w.getD k 0 = u.getD k 0) → False := by
    intro n
    induction n with
    | zero =>
      intro _ h
      refine ne (List.ext_getElem (by rw [a.len, b.len]) fun k h1 h2 => ?_)
      have := h k (Nat.zero_le _) (by rw [← a.len]; exact h1)
      rw [List.getD_eq_getElem?_getD, List.getD_eq_getElem?_getD, List.getElem?_eq_getElem h1, List.getElem?_eq_getElem h2] at this
      exact this
    | succ n ih =>
      intro hn h
      refine ih (by omega) fun k h1 h2 => ?_
      by_cases e : k = n
      · subst e
        refine Classical.byContradiction fun d => ?_
        have bd : ∀ {v : List Int}, (∀ a ∈ v, 0 ≤ a ∧ a < p) → k < v.length → 0 ≤ v.getD k 0 ∧ v.getD k 0 < p := fun {v} hv hk => by
          rw [List.getD_eq_getElem?_getD, List.getElem?_eq_getElem hk]
          exact hv _ (List.getElem_mem hk)
        have b1 := bd a.bd (by rw [a.len]; omega)
        have b2 := bd b.bd (by rw [b.len]; omega)
        have nd : ¬ p ∣ w.getD k 0 - u.getD k 0 := fun z => by
          have p1 := hp.1
          rcases Int.lt_trichotomy (w.getD k 0 - u.getD k 0) 0 with q | q | q
          · have := Int.le_of_dvd (a := p) (b := u.getD k 0 - w.getD k 0) (by omega) (by obtain ⟨m, hm⟩ := z; exact ⟨-m, by grind⟩)
            omega
          · omega
          · have := Int.le_of_dvd q z
            omega
        obtain ⟨t, m, hm⟩ := hp.2 _ nd
        have dep : InSp p L (R.take k) (R.getD k fun _ => 0) := by
          refine InSp.sum.mpr ⟨fun j => -t * (w.getD j 0 - u.getD j 0), fun i hi => ?_⟩
          have lt : (R.take k).length = k := by rw [List.length_take]; omega
          rw [lt]
          obtain ⟨m1, e1⟩ := a.sum i hi
          obtain ⟨m2, e2⟩ := b.sum i hi
          have split : ∀ v : List Int, sumF (fun j => (R.getD j fun _ => 0) i * v.getD j 0) R.length = sumF (fun j => (R.getD j fun _ => 0) i * v.getD j 0) k + (R.getD k fun _ => 0) i * v.getD k 0 + sumF (fun j => (R.getD (k + 1 + j) fun _ => 0) i * v.getD (k + 1 + j) 0) (R.length - (k + 1)) := fun v => by
            have e : R.length = k + 1 + (R.length - (k + 1)) := by omega
            conv => lhs; rw [e, sumF_add, sumF]
          rw [split w] at e1
          rw [split u] at e2
          have tail : sumF (fun j => (R.getD (k + 1 + j) fun _ => 0) i * w.getD (k + 1 + j) 0) (R.length - (k + 1)) = sumF (fun j => (R.getD (k + 1 + j) fun _ => 0) i * u.getD (k + 1 + j) 0) (R.length - (k + 1)) := sumF_cong fun j hj => by
            rw [h (k + 1 + j) (by omega) (by omega)]
          rw [tail] at e1
          have front : sumF (fun j => ((R.take k).getD j fun _ => 0) i * (-t * (w.getD j 0 - u.getD j 0))) k = -t * sumF (fun j => (R.getD j fun _ => 0) i * w.getD j 0) k + t * sumF (fun j => (R.getD j fun _ => 0) i * u.getD j 0) k := by
            rw [← sumF_lin]
            refine sumF_cong fun j hj => ?_
            have : (R.take k).getD j (fun _ => 0) = R.getD j fun _ => 0 := by
              rw [List.getD_eq_getElem?_getD, List.getD_eq_getElem?_getD, List.getElem?_take_of_lt hj]
            rw [this]
            grind
          rw [front]
          generalize sumF (fun j => (R.getD j fun _ => 0) i * w.getD j 0) k = A at *
          generalize sumF (fun j => (R.getD j fun _ => 0) i * u.getD j 0) k = B at *
          generalize sumF (fun j => (R.getD (k + 1 + j) fun _ => 0) i * u.getD (k + 1 + j) 0) (R.length - (k + 1)) = C at *
          generalize w.getD k 0 = W at *
          generalize u.getD k 0 = U at *
          generalize (R.getD k fun _ => 0) i = r at *
          generalize x i = y at *
          clear split tail front
          exact ⟨t * m2 - t * m1 - r * m, by grind⟩
        have z1 : w.getD k 0 = 0 := Classical.byContradiction fun z => a.nz k h2 z dep
        have z2 : u.getD k 0 = 0 := Classical.byContradiction fun z => b.nz k h2 z dep
        exact d (z1.trans z2.symm)
      · exact h k (by omega) h2
  exact key R.length (Nat.le_refl _) fun k h1 h2 => by omega
theorem Wts.in_sp {p : Int} {L : Nat} {R : List Row} {x : Row} {w : List Int} (a : Wts p L R x w) : InSp p L R x := InSp.sum.mpr ⟨fun k => w.getD k 0, a.sum⟩
end Lj
set_option Elab.async false
set_option linter.all false
set_option maxRecDepth 100000
set_option pp.maxSteps 500
set_option pp.deepTerms.threshold 8
set_option pp.deepTerms false
namespace Lj
open PySem PySem.Spec PyProof.Rows L2 HT
/-! ### t[::-1], t a tuple -/
section
variable {prog : Program} {w : World} {A : Around} {E : Value → Shared → Prop} {s : Shared}
theorem sliceApplied_rev {sl : Addr} {vl vu vs : Value} {n : Nat} {Q : Int × Int × Nat → Shared → Prop} (hs : s.heap.IsSliceOf sl vl vu vs) (pl : IsPart vl none) (pu : IsPart vu none) (ps : IsPart vs (some (-1)))
    (h : Q ((n : Int) - 1, -1, n) s) : wpAny (model prog w) A (Builtin.Slice.sliceApplied (.ref sl) (pure (n : Int))) Q E s := by
  obtain ⟨os, hos, hcs, hds⟩ := id hs
  unfold Builtin.Slice.sliceApplied Builtin.Slice.sliceFields
  refine wpAny_bind (wpAny_bind (wpAny_field hos hds (x := vl) rfl (wpAny_bind (wpAny_field hos hds (x := vu) rfl (wpAny_bind (wpAny_field hos hds (x := vs) rfl (wpAny_pure ?_)))))))
  refine wpAny_bind (slicePart_ ps ?_)
  show wpAny _ _ (if ((-1 : Int) == 0) = true then _ else _) _ _ s
  rw [if_neg (by decide)]
  refine wpAny_bind (slicePart_ pl (wpAny_bind (slicePart_ pu (wpAny_bind (wpAny_pure ?_)))))
  show wpAny _ _ (match Builtin.Slice.sliceAdjust none none (-1) (n : Int) with | (lo, hi) => pure (lo, (-1 : Int), Builtin.Slice.slicePlaces lo hi (-1))) _ _ s
  have e : Builtin.Slice.sliceAdjust none none (-1) (n : Int) = ((n : Int) - 1, -1) := rfl
  rw [e]
  show wpAny _ _ (pure ((n : Int) - 1, (-1 : Int), Builtin.Slice.slicePlaces ((n : Int) - 1) (-1) (-1))) _ _ s
  have e2 : Builtin.Slice.slicePlaces ((n : Int) - 1) (-1) (-1) = n := by
    unfold Builtin.Slice.slicePlaces
    have h1 : ¬ ((-1 : Int) > 0) := by omega
    have h2 : (- -1 : Int) = 1 := by decide
    simp only [h1, if_false, h2, Int.ediv_one]
    split <;> omega
  rw [e2]
  exact wpAny_pure h
theorem pick_rev (xs : Array Value) : ((List.range xs.size).filterMap fun (m : Nat) => xs[((xs.size : Int) - 1 + (m : Int) * (-1)).toNat]?).toArray = xs.toList.reverse.toArray := by
  have e : (List.range xs.size).filterMap (fun (m : Nat) => xs[((xs.size : Int) - 1 + (m : Int) * (-1)).toNat]?) = ((List.range xs.size).map fun k => xs.size - 1 - k).filterMap (xs[·]?) := by
    rw [List.filterMap_map]
    congr 1
    funext m
    show xs[((xs.size : Int) - 1 + (m : Int) * (-1)).toNat]? = xs[xs.size - 1 - m]?
    have : ((xs.size : Int) - 1 + (m : Int) * (-1)).toNat = xs.size - 1 - m := by omega
    rw [this]
  rw [e, PySem.W.krv_range, List.filterMap_reverse, PySem.W.krv_all]
theorem getItem_tuple_rev {t sl : Addr} {items : Array Value} {vl vu vs : Value} {Q : Value → Shared → Prop} (ht : IsTup s.heap t items) (hs : s.heap.IsSliceOf sl vl vu vs) (pl : IsPart vl none) (pu : IsPart vu none) (ps : IsPart vs (some (-1)))
    (h : Q (.ref s.heap.objs.size) { s with heap := s.heap.push { cls := .type "tuple", data := .seq items.toList.reverse.toArray } })
    (hsz : items.size ≤ sizeLine) : wpAny (model prog w) A (getItem (.ref t) (.ref sl)) Q E s := by
  have htake : sizeOk (.seq items.toList.reverse.toArray) := by
    show items.toList.reverse.toArray.size ≤ sizeLine
    rw [List.size_toArray, List.length_reverse, Array.length_toList]
    exact hsz
  obtain ⟨os, hos, hcs, hds⟩ := id hs
  have hTs : s.TypeIs (.ref sl) "slice" := ⟨os, hos, hcs⟩
  unfold getItem
  try with_reducible refine wpAny_holding ?_
  first | refine wpAny_bind (wpAny_pure ?_) | skip
  refine wpAny_bind (wpAny_sequenceKey ht.typeIs (by decide) ?_)
  refine wpAny_bind (wpAny_callSpecial?_slot (name := Str.ofString "__getitem__") ht.typeIs PyProof.Rows.slot_tuple_getitem
    (wpAny_call_entry PyProof.Rows.slot_tuple_getitem ht.typeIs entry_tuple_getitem ?_ (args_tuple_getitem _ _)))
  show wpAny _ _ (Builtin.Tuple.tupleItemsOf (.ref t) >>= _) _ _ s
  refine wpAny_bind (tupleItemsOf_ ht ?_)
  refine wpAny_bind (wpAny_typeOf hTs ?_)
  rw [if_pos (by decide)]
  refine wpAny_bind (sliceApplied_rev hs pl pu ps ?_)
  have hno : ¬ ((((items.size : Int) - 1) == 0 && (-1 : Int) == 1 && items.size == items.size) = true) := by
    intro q
    rw [Bool.and_eq_true, Bool.and_eq_true] at q
    exact absurd q.1.2 (by decide)
  show wpAny _ _ (if (((items.size : Int) - 1) == 0 && (-1 : Int) == 1 && items.size == items.size) = true then _ else _) _ _ s
  rw [if_neg hno, pick_rev]
  first
    | exact wpAny_bind (m := Builtin.Tuple.tupleExact _) (wpAny_newObj_type (wpAny_pure ⟨_, rfl, wpAny_pure h⟩) htake)
    | exact wpAny_bind (m := Builtin.Tuple.tupleExact _) (wpAny_newObj_type (wpAny_bind (wpAny_pure (wpAny_pure ⟨_, rfl, wpAny_pure h⟩))) htake)
    | exact wpAny_bind (wpAny_bind (m := Builtin.Tuple.tupleExact _) (wpAny_newObj_type (wpAny_pure (wpAny_pure ⟨_, rfl, wpAny_pure h⟩)) htake))
    | exact wpAny_bind (wpAny_bind (m := Builtin.Tuple.tupleExact _) (wpAny_newObj_type (wpAny_pure ⟨_, rfl, wpAny_pure h⟩) htake))
end
def tRevT (K : PySem.W.Frag) (te : TE) : TE := fun σ H Q => te σ H fun x H1 => ∃ a xs, x = .ref a ∧ SqT K H1 a xs ∧ ∀ p, H1 p = none → Q (.ref p) (upd H1 p (.tup xs.reverse))
theorem pe_revT {X : Cx} {e : Expr} {te : TE} {k : Nat} {p1 p2 p3 pos : Pos} (he : PE X e te) : PE X (.Subscript e (.Slice none none (some (.UnaryOp .USub (.Constant (.int 1) k p1) p2)) p3) pos) (tRevT X.K te) := by
  refine ⟨fun pins s σ H Q I h => ?_⟩
  refine Subscript_ (thn (he.run pins s σ H _ I h) fun v s1 ⟨x, H1, I1, r1, q1⟩ => ?_)
  obtain ⟨a, xs, ex, hx, q⟩ := q1
  subst ex
  cases r1
  have hst : PO X (some (.UnaryOp .USub (.Constant (.int 1) k p1) p2)) (tPart (tUn (rU fun i => .int (-i)) (tC (.int 1)))) := po_some (pe_un un_neg pe_int)
  refine wpAny_Slice (thn (po_none.run pins s1 σ H1 (fun o H2 => o = none ∧ H2 = H1) I1 ⟨rfl, rfl⟩) fun vl s2 ⟨l, H2, I2, pl, el, e2⟩ => ?_)
  subst el e2
  refine thn (po_none.run pins s2 σ H2 (fun o H3 => o = none ∧ H3 = H2) I2 ⟨rfl, rfl⟩) fun vu s3 ⟨u, H3, I3, pu, eu, e3⟩ => ?_
  subst eu e3
  refine thn (hst.run pins s3 σ H3 (fun o H4 => o = some (-1) ∧ H4 = H3) I3 ⟨1, rfl, -1, rfl, rfl, rfl⟩) fun vs s4 ⟨o, H4, I4, ps, eo, e4⟩ => ?_
  subst eo e4
  have I5 : Inv X pins σ H4 { s4 with heap := s4.heap.push { cls := .type "slice", data := .fields #[vl, vu, vs] } } := I4.kept (t' := s4.toks) fun b ob q => Heap.get?_push_of_some _ q
  obtain ⟨its, r, ht, hz⟩ := I5.tuple hx
  have hlen := r.length
  show wpAny (model X.prog X.w) X.A (subscriptTail e (.Slice none none (some (.UnaryOp .USub (.Constant (.int 1) k p1) p2)) p3) (.ref a) (.ref s4.heap.objs.size)) (EP X pins σ Q) X.xe { s4 with heap := s4.heap.push { cls := .type "slice", data := .fields #[vl, vu, vs] } }
  refine tail_any (ops := [.ref a, .ref s4.heap.objs.size]) ht.typeIs (PyProof.Rows.slot_tuple_getitem.lookup) ?_ (by with_unfolding_all rfl)
  refine getItem_tuple_rev ht (Heap.IsSliceOf.new _ vl vu vs) pl pu ps ?_ (by rw [List.size_toArray]; omega)
  refine ⟨.ref _, _, I5.laid (t' := s4.toks) (o := .tup xs.reverse) (fun b ob q => Heap.get?_push_of_some _ q) (Nat.le_refl _) ?_, rfl, q _ (I5.hok.fresh (Nat.le_refl _))⟩
  exact ⟨by rw [List.length_reverse]; exact hz, _, r.reverse, IsTup.new _ _⟩
end Lj
set_option Elab.async false
set_option linter.all false
set_option maxRecDepth 100000
set_option pp.maxSteps 500
set_option pp.deepTerms.threshold 8
set_option pp.deepTerms false
namespace Lj
open PySem PySem.Spec PyProof.Rows L2
/-! ### instructions that can be undone -/
def Rv (p n : Int) (w : Str) (as : List Int) : Prop :=
  (w = "add" ∧ ∃ x y c, as = [x, y, c] ∧ 0 ≤ x ∧ x < n ∧ 0 ≤ y ∧ y < n ∧ x ≠ y ∧ 1 ≤ c ∧ c < p) ∨
  (w = "scale" ∧ ∃ x c, as = [x, c] ∧ 0 ≤ x ∧ x < n ∧ 1 ≤ c ∧ c < p) ∨
  (w = "swap" ∧ ∃ x y, as = [x, y] ∧ 0 ≤ x ∧ x < n ∧ 0 ≤ y ∧ y < n ∧ x ≠ y)
theorem Rv.good {p n : Int} {w : Str} {as : List Int} (h : Rv p n w as) : GoodOp p n w as := by
  rcases h with ⟨e, x, y, c, r⟩ | ⟨e, x, c, a, b, d, f, g⟩ | ⟨e, x, y, r⟩
  · exact .inr (.inr (.inr ⟨e, x, y, c, r⟩))
  · exact .inl ⟨.inr e, x, c, a, b, d, by omega, g⟩
  · exact .inr (.inr (.inl ⟨.inr e, x, y, r⟩))
theorem Rv.nrw {p n : Int} {w : Str} {as : List Int} (h : Rv p n w as) : w ≠ "read" ∧ w ≠ "write" := by
  rcases h with ⟨rfl, _⟩ | ⟨rfl, _⟩ | ⟨rfl, _⟩ <;> exact ⟨by decide, by decide⟩
/-! ### inverses -/
theorem pmg_lt {q : Nat} (q0 : 0 < q) : ∀ (n f b l : Nat), f < q → pmg n q f b l < q
  | 0, f, _, _, h => h
  | n + 1, f, b, l, h => by
    by_cases c : l = 0
    · rw [c, pmg_zero]
      exact h
    · rw [pmg_step n q f b l c]
      refine pmg_lt q0 n _ _ _ ?_
      split
      · exact Nat.mod_lt _ q0
      · exact h
def ivq (p c : Int) : Int := ((pmg 14 p.toNat 1 c.toNat (p.toNat - 2) : Nat) : Int)
theorem ivq_ok {q : Nat} {c : Int} (hq : q ∈ prsN) (c0 : 1 ≤ c) (c1 : c < q) : 1 ≤ ivq q c ∧ ivq q c < q ∧ c * ivq q c % q = 1 := by
  have z : (prsN.all fun n => decide (2 ≤ n)) = true := by decide
  have q2 : 2 ≤ q := of_decide_eq_true (List.all_eq_true.mp z q hq)
  have k := pm_inv hq (a := c.toNat) (by omega) (by omega)
  have l := pmg_lt (q := q) (by omega) 14 1 c.toNat (q - 2) (by omega)
  have e : ivq q c = ((pmg 14 q 1 c.toNat (q - 2) : Nat) : Int) := rfl
  rw [e]
  generalize pmg 14 q 1 c.toNat (q - 2) = r at k l
  have k2 : c * (r : Int) % (q : Int) = 1 := by
    have h : ((c.toNat * r % q : Nat) : Int) = 1 := by rw [k]; rfl
    rw [Int.natCast_emod, Int.natCast_mul, Int.toNat_of_nonneg (by omega)] at h
    exact h
  refine ⟨?_, by omega, k2⟩
  cases r with
  | zero =>
    rw [show ((0 : Nat) : Int) = 0 from rfl, Int.mul_zero, Int.zero_emod] at k2
    cases k2
  | succ r => omega
def opInv (p : Int) (w : Str) (as : List Int) : List Int := match as with
  | [x, y, c] => [x, y, p - c]
  | [x, c] => if w = "scale" then [x, ivq p c] else [x, c]
  | as => as
theorem inv_add (p x y c : Int) : opInv p "add" [x, y, c] = [x, y, p - c] := rfl
theorem inv_scale (p x c : Int) : opInv p "scale" [x, c] = [x, ivq p c] := by
  unfold opInv
  exact if_pos rfl
theorem inv_swap (p x y : Int) : opInv p "swap" [x, y] = [x, y] := by
  unfold opInv
  exact if_neg (by decide)
theorem Rv.inv {q : Nat} {n : Int} {w : Str} {as : List Int} (hq : q ∈ prsN) (h : Rv q n w as) : Rv q n w (opInv q w as) := by
  rcases h with ⟨rfl, x, y, c, rfl, a, b, d, e, f, g, k⟩ | ⟨rfl, x, c, rfl, a, b, d, e⟩ | ⟨rfl, x, y, rfl, r⟩
  · rw [inv_add]
    exact .inl ⟨rfl, x, y, _, rfl, a, b, d, e, f, by omega, by omega⟩
  · rw [inv_scale]
    obtain ⟨k1, k2, _⟩ := ivq_ok hq d e
    exact .inr (.inl ⟨rfl, x, _, rfl, a, b, k1, k2⟩)
  · rw [inv_swap]
    exact .inr (.inr ⟨rfl, x, y, rfl, r⟩)
/-! ### rows -/
theorem sv_same {r : List Int} {i : Int} {v w : Int} : sv (sv r i v) i w = sv r i w := by
  unfold sv
  rw [List.set_set]
theorem gt_sv {r : List Int} {i v : Int} (h0 : 0 ≤ i) (h1 : i < (r.length : Int)) : gt (sv r i v) i = v := by
  unfold gt sv
  rw [List.getD_eq_getElem?_getD, List.getElem?_set_self (by omega)]
  rfl
theorem gt_sv_ne {r : List Int} {i j v : Int} (h0 : 0 ≤ i) (h1 : 0 ≤ j) (h : i ≠ j) : gt (sv r i v) j = gt r j := by
  unfold gt sv
  rw [List.getD_eq_getElem?_getD, List.getElem?_set_ne (by omega), List.getD_eq_getElem?_getD]
theorem sv_gt {r : List Int} {i : Int} (h1 : i.toNat < r.length) : sv r i (gt r i) = r := by
  unfold gt sv
  rw [List.getD_eq_getElem?_getD, List.getElem?_eq_getElem h1]
  exact List.set_getElem_self h1
theorem sv_comm {r : List Int} {i j v w : Int} (h0 : 0 ≤ i) (h1 : 0 ≤ j) (h : i ≠ j) : sv (sv r i v) j w = sv (sv r j w) i v := by
  unfold sv
  exact List.set_comm _ _ (by omega)
theorem red {p x : Int} (h : 0 ≤ x ∧ x < p) : x % p = x := Int.emod_eq_of_lt h.1 h.2
theorem add_back {p c x y : Int} (h : 0 ≤ x ∧ x < p) : ((x + c * y) % p + (p - c) * y) % p = x := by
  obtain ⟨q, e⟩ : ∃ q, (x + c * y) % p = x + c * y - p * q := ⟨(x + c * y) / p, by rw [Int.emod_def]⟩
  rw [e, show x + c * y - p * q + (p - c) * y = x + p * (y - q) by grind, Int.add_mul_emod_self_left, red h]
theorem add_back2 {p c x y : Int} (h : 0 ≤ x ∧ x < p) : ((x + (p - c) * y) % p + c * y) % p = x := by
  obtain ⟨q, e⟩ : ∃ q, (x + (p - c) * y) % p = x + (p - c) * y - p * q := ⟨(x + (p - c) * y) / p, by rw [Int.emod_def]⟩
  rw [e, show x + (p - c) * y - p * q + c * y = x + p * (y - q) by grind, Int.add_mul_emod_self_left, red h]
theorem mul_back {p c d x : Int} (h : 0 ≤ x ∧ x < p) (k : c * d % p = 1) : d * (c * x % p) % p = x := by
  obtain ⟨q, e⟩ : ∃ q, c * x % p = c * x - p * q := ⟨c * x / p, by rw [Int.emod_def]⟩
  obtain ⟨t, f⟩ : ∃ t, c * d = 1 + p * t := ⟨c * d / p, by have := Int.emod_def (c * d) p; omega⟩
  have g : d * (c * x - p * q) = x + p * (t * x - d * q) := by
    have : d * (c * x - p * q) = (c * d) * x - p * (d * q) := by grind
    rw [this, f]
    grind
  rw [e, g, Int.add_mul_emod_self_left, red h]
/-- undone, either way -/
theorem ex_back {q : Nat} {n : Int} {w : Str} {as r : List Int} (hq : q ∈ prsN) (h : Rv q n w as) (hr : In q r) (rl : (r.length : Int) = n + 1) : exRow q w (opInv q w as) (exRow q w as r) = r ∧ exRow q w as (exRow q w (opInv q w as) r) = r := by
  have z : (prsN.all fun n => decide (2 ≤ n)) = true := by decide
  have q2 : 2 ≤ q := of_decide_eq_true (List.all_eq_true.mp z q hq)
  have ing := fun i => in_gt hr (show (0 : Int) < q by omega) i
  rcases h with ⟨rfl, x, y, c, rfl, a, b, d, e, f, g, k⟩ | ⟨rfl, x, c, rfl, a, b, d, e⟩ | ⟨rfl, x, y, rfl, a, b, d, e, f⟩
  · rw [inv_add, ex_add, ex_add, ex_add, ex_add, gt_sv (by omega) (by omega), gt_sv_ne (by omega) (by omega) (by omega), gt_sv (by omega) (by omega), gt_sv_ne (by omega) (by omega) (by omega), sv_same, sv_same, add_back (ing _), add_back2 (ing _), sv_gt (by omega)]
    exact ⟨rfl, rfl⟩
  · obtain ⟨k1, k2, k3⟩ := ivq_ok hq d e
    rw [inv_scale, ex_scale, ex_scale, ex_scale, ex_scale, gt_sv (by omega) (by omega), gt_sv (by omega) (by omega), sv_same, sv_same, mul_back (ing _) k3, mul_back (ing _) (by rw [Int.mul_comm]; exact k3), sv_gt (by omega)]
    exact ⟨rfl, rfl⟩
  · rw [inv_swap]
    have sw : exRow q "swap" [x, y] (exRow q "swap" [x, y] r) = r := by
      rw [ex_swap, ex_swap, gt_sv (by omega) (by rw [sv_len]; omega), gt_sv_ne (by omega) (by omega) (by omega), gt_sv (by omega) (by omega)]
      rw [sv_comm (i := y + 1) (j := x + 1) (by omega) (by omega) (by omega), sv_same, sv_same, sv_gt (by omega), sv_gt (by omega)]
    exact ⟨sw, sw⟩
theorem ex_cons {p n : Int} {w : Str} {as : List Int} (h : Rv p n w as) (a : Int) (r : List Int) : ∃ r', exRow p w as (a :: r) = a :: r' := by
  have st : ∀ (i v : Int) (s : List Int), 0 ≤ i → sv (a :: s) (i + 1) v = a :: s.set i.toNat v := fun i v s h => by
    unfold sv
    rw [show (i + 1).toNat = i.toNat + 1 by omega]
    rfl
  rcases h with ⟨rfl, x, y, c, rfl, a1, _⟩ | ⟨rfl, x, c, rfl, a1, _⟩ | ⟨rfl, x, y, rfl, a1, _, a2, _⟩
  · rw [ex_add, st _ _ _ a1]
    exact ⟨_, rfl⟩
  · rw [ex_scale, st _ _ _ a1]
    exact ⟨_, rfl⟩
  · rw [ex_swap, st _ _ _ a1, st _ _ _ a2]
    exact ⟨_, rfl⟩
/-! ### runs that can be undone -/
def Rvs (p n : Int) (E : List Tr) : Prop := ∀ t ∈ E, ∃ w as, t = .op w as ∧ Rv p n w as
theorem Rvs.goods {p n : Int} {E : List Tr} (h : Rvs p n E) : Goods p n E := fun t m => by
  obtain ⟨w, as, e, r⟩ := h t m
  exact ⟨w, as, e, r.good⟩
def exT (p : Int) : List Int → Tr → List Int
  | r, .op w as => exRow p w as r
  | r, .loop _ _ => r
def acts (p : Int) (E : List Tr) (r : List Int) : List Int := E.foldl (exT p) r
theorem acts_append (p : Int) (E F : List Tr) (r : List Int) : acts p (E ++ F) r = acts p F (acts p E r) := List.foldl_append
theorem rns_acts {p n : Int} {is : List Int} : ∀ {E : List Tr} {s : RS}, Rvs p n E → rns p is s E = ⟨acts p E s.row, s.tk, s.wr⟩
  | [], s, _ => rfl
  | t :: r, s, g => by
    obtain ⟨w, as, rfl, h⟩ := g t List.mem_cons_self
    have ih := rns_acts (is := is) (E := r) (s := stp p is s (.op w as)) (fun u m => g u (List.mem_cons_of_mem _ m))
    show rns p is (stp p is s (.op w as)) r = _
    rw [ih, stp_else h.nrw.1 h.nrw.2]
    rfl
mutual
def Tr.inv (p : Int) : Tr → Tr
  | .op w as => .op w (opInv p w as)
  | .loop k b => .loop k (invs p b)
def invs (p : Int) : List Tr → List Tr
  | [] => []
  | t :: r => invs p r ++ [t.inv p]
end
theorem invs_map (p : Int) : ∀ b : List Tr, invs p b = b.reverse.map (Tr.inv p)
  | [] => rfl
  | t :: r => by rw [invs, invs_map p r, List.reverse_cons, List.map_append]; rfl
theorem invs_len (p : Int) (b : List Tr) : (invs p b).length = b.length := by rw [invs_map, List.length_map, List.length_reverse]
theorem flat_rev {α : Type} (xs : List α) : ∀ n : Nat, (List.replicate n xs).flatten.reverse = (List.replicate n xs.reverse).flatten
  | 0 => rfl
  | n + 1 => by
    rw [List.replicate_succ, List.flatten_cons, List.reverse_append, flat_rev xs n, List.replicate_succ', List.flatten_append]
    simp
theorem flat_map {α β : Type} (f : α → β) (xs : List α) (n : Nat) : (List.replicate n xs).flatten.map f = (List.replicate n (xs.map f)).flatten := by
  rw [List.map_flatten, List.map_replicate]
mutual
theorem Tr.ex_inv (p : Int) : ∀ t : Tr, (t.inv p).ex = (t.ex.map (Tr.inv p)).reverse
  | .op w as => by rw [Tr.inv, Tr.ex, Tr.ex]; rfl
  | .loop k b => by rw [Tr.inv, Tr.ex, Tr.ex, exs_inv p b, flat_map, flat_rev]
theorem exs_inv (p : Int) : ∀ b : List Tr, exs (invs p b) = ((exs b).map (Tr.inv p)).reverse
  | [] => by rw [invs, exs]; rfl
  | t :: r => by
    rw [invs, exs_map, List.map_append, List.flatten_append, ← exs_map, exs_inv p r, exs, List.map_append, List.reverse_append]
    show _ ++ ([(t.inv p).ex]).flatten = _
    rw [List.flatten_cons, List.flatten_nil, List.append_nil, Tr.ex_inv p t]
end
theorem Rvs.inv {q : Nat} {n : Int} {E : List Tr} (hq : q ∈ prsN) (h : Rvs q n E) : Rvs q n (E.map (Tr.inv q)).reverse := fun t m => by
  obtain ⟨u, mu, rfl⟩ := List.mem_map.mp (List.mem_reverse.mp m)
  obtain ⟨w, as, rfl, r⟩ := h u mu
  exact ⟨w, opInv q w as, by rw [Tr.inv], r.inv hq⟩
theorem acts_ok {p n : Int} (p0 : 0 < p) : ∀ {E : List Tr} {r : List Int}, Rvs p n E → In p r → In p (acts p E r) ∧ (acts p E r).length = r.length
  | [], r, _, h => ⟨h, rfl⟩
  | t :: E, r, g, h => by
    obtain ⟨w, as, rfl, v⟩ := g t List.mem_cons_self
    have ih := acts_ok p0 (E := E) (r := exRow p w as r) (fun u m => g u (List.mem_cons_of_mem _ m)) (in_ex v.good p0 h)
    exact ⟨ih.1, ih.2.trans (ex_len v.good)⟩
theorem acts_cons {p n : Int} : ∀ {E : List Tr} (a : Int) (r : List Int), Rvs p n E → ∃ r', acts p E (a :: r) = a :: r'
  | [], a, r, _ => ⟨r, rfl⟩
  | t :: E, a, r, g => by
    obtain ⟨w, as, rfl, v⟩ := g t List.mem_cons_self
    obtain ⟨r1, e⟩ := ex_cons v a r
    show ∃ r', acts p E (exRow p w as (a :: r)) = _
    rw [e]
    exact acts_cons (E := E) a r1 fun u m => g u (List.mem_cons_of_mem _ m)
theorem acts_back {q : Nat} {n : Int} (hq : q ∈ prsN) (q0 : (0 : Int) < q) : ∀ {E : List Tr} {r : List Int}, Rvs q n E → In q r → (r.length : Int) = n + 1 → acts q (E.map (Tr.inv q)).reverse (acts q E r) = r ∧ acts q E (acts q (E.map (Tr.inv q)).reverse r) = r
  | [], r, _, _, _ => ⟨rfl, rfl⟩
  | t :: E, r, g, h, l => by
    have g' : Rvs q n E := fun u m => g u (List.mem_cons_of_mem _ m)
    obtain ⟨w, as, rfl, v⟩ := g t List.mem_cons_self
    have e1 : ∀ x, acts q ((Tr.op w as :: E).map (Tr.inv q)).reverse x = exRow q w (opInv q w as) (acts q (E.map (Tr.inv q)).reverse x) := fun x => by
      rw [List.map_cons, List.reverse_cons, acts_append, Tr.inv]
      rfl
    have e2 : ∀ x, acts q (Tr.op w as :: E) x = acts q E (exRow q w as x) := fun x => rfl
    have ih1 := acts_back hq q0 (E := E) (r := exRow q w as r) g' (in_ex v.good q0 h) (by rw [ex_len v.good]; exact l)
    have ih2 := acts_back hq q0 (E := E) (r := r) g' h l
    have k := acts_ok q0 (g'.inv hq) h
    refine ⟨?_, ?_⟩
    · rw [e1, e2, ih1.1]
      exact (ex_back hq v h l).1
    · rw [e1, e2, (ex_back hq v k.1 (by rw [k.2]; exact l)).2]
      exact ih2.2
/-! ### what the law keeps of a drawn program -/
def kc (p c : Int) : Int := if c > 0 then c else p - 1
def opKeep (p : Int) (w : Str) (as : List Int) : List Tr := if w = "scale" then (match as with
  | [x, c] => [.op "scale" [x, kc p c]]
  | _ => []) else if w = "set" then [] else [.op w as]
mutual
def Tr.kp (p : Int) : Tr → List Tr
  | .op w as => opKeep p w as
  | .loop k b => [.loop k (kps p b)]
def kps (p : Int) : List Tr → List Tr
  | [] => []
  | t :: r => t.kp p ++ kps p r
end
theorem kps_next {p : Int} : ∀ {b : List Tr} {i : Nat} {t : Tr}, b[i]? = some t → kps p (b.take (i + 1)) = kps p (b.take i) ++ t.kp p
  | [], _, _, e => by simp at e
  | a :: r, 0, t, e => by
    cases e
    show kps p [a] = kps p [] ++ _
    simp [kps]
  | a :: r, i + 1, t, e => by
    rw [List.take_succ_cons, List.take_succ_cons, kps, kps, kps_next (b := r) (i := i) e, List.append_assoc]
/-- what may be drawn: no reads, no writes, no copies -/
def Dr (p n : Int) (w : Str) (as : List Int) : Prop := GoodOp p n w as ∧ (w = "add" ∨ w = "scale" ∨ w = "swap" ∨ w = "set")
theorem keep_one {p : Int} {w : Str} {as : List Int} (t : Tr) : (opKeep p w as).length ≤ 1 := by
  unfold opKeep
  split
  · split
    · exact Nat.le_refl 1
    · exact Nat.zero_le _
  · split
    · exact Nat.zero_le _
    · exact Nat.le_refl 1
theorem keep_ok {p n : Int} {w : Str} {as : List Int} (h : Dr p n w as) (p0 : 2 ≤ p) : ∀ t ∈ opKeep p w as, ∃ w' as', t = .op w' as' ∧ Rv p n w' as' := by
  obtain ⟨g, k⟩ := h
  rcases g with ⟨rfl | rfl, x, c, rfl, a, b, d, e⟩ | ⟨rfl | rfl, x, rfl, a, b⟩ | ⟨rfl | rfl, x, y, rfl, r⟩ | ⟨rfl, x, y, c, rfl, r⟩
  · intro t m
    unfold opKeep at m
    rw [if_neg (by decide), if_pos rfl] at m
    cases m
  · intro t m
    unfold opKeep at m
    rw [if_pos rfl] at m
    rw [List.mem_singleton.mp m]
    refine ⟨_, _, rfl, .inr (.inl ⟨rfl, x, _, rfl, a, b, ?_, ?_⟩)⟩
    · unfold kc
      split <;> omega
    · unfold kc
      split <;> omega
  · rcases k with k | k | k | k <;> exact absurd k (by decide)
  · rcases k with k | k | k | k <;> exact absurd k (by decide)
  · rcases k with k | k | k | k <;> exact absurd k (by decide)
  · intro t m
    unfold opKeep at m
    rw [if_neg (by decide), if_neg (by decide)] at m
    rw [List.mem_singleton.mp m]
    exact ⟨_, _, rfl, .inr (.inr ⟨rfl, x, y, rfl, r⟩)⟩
  · intro t m
    unfold opKeep at m
    rw [if_neg (by decide), if_neg (by decide)] at m
    rw [List.mem_singleton.mp m]
    exact ⟨_, _, rfl, .inl ⟨rfl, x, y, c, rfl, r⟩⟩
mutual
theorem Tr.made_kp {p n : Int} {R : Int → Prop} (p0 : 2 ≤ p) : ∀ (t : Tr) (l d : Nat), t.made (Dr p n) R l d → mades (Rv p n) R (t.kp p) l d ∧ (t.kp p).length ≤ 1
  | .op w as, l, d, h => by
    rw [Tr.made] at h
    rw [Tr.kp]
    refine ⟨?_, keep_one (.op w as)⟩
    have k := keep_ok h p0
    have g : ∀ b : List Tr, (∀ t ∈ b, ∃ w' as', t = .op w' as' ∧ Rv p n w' as') → mades (Rv p n) R b l d := fun b => by
      induction b with
      | nil => intro _; exact mades_nil
      | cons t r ih =>
        intro h
        rw [mades]
        obtain ⟨w', as', e, v⟩ := h t List.mem_cons_self
        refine ⟨?_, ih fun u m => h u (List.mem_cons_of_mem _ m)⟩
        rw [e, Tr.made]
        exact v
    exact g _ k
  | .loop k b, l, 0, h => by rw [Tr.made] at h; exact h.elim
  | .loop k b, l, d + 1, h => by
    rw [Tr.made] at h
    obtain ⟨a, c⟩ := mades_kp p0 b (l / 2) d h.2.2
    rw [Tr.kp]
    refine ⟨mades_one ?_, Nat.le_refl 1⟩
    rw [Tr.made]
    exact ⟨h.1, Nat.le_trans c h.2.1, a⟩
theorem mades_kp {p n : Int} {R : Int → Prop} (p0 : 2 ≤ p) : ∀ (b : List Tr) (l d : Nat), mades (Dr p n) R b l d → mades (Rv p n) R (kps p b) l d ∧ (kps p b).length ≤ b.length
  | [], _, _, _ => by
    rw [kps]
    exact ⟨mades_nil, Nat.le_refl _⟩
  | t :: r, l, d, h => by
    rw [mades] at h
    obtain ⟨a1, a2⟩ := Tr.made_kp p0 t l d h.1
    obtain ⟨b1, b2⟩ := mades_kp p0 r l d h.2
    rw [kps]
    refine ⟨mades_append a1 b1, ?_⟩
    rw [List.length_append, List.length_cons]
    omega
end
mutual
theorem Tr.made_inv {q : Nat} {n : Int} {R : Int → Prop} (hq : q ∈ prsN) : ∀ (t : Tr) (l d : Nat), t.made (Rv q n) R l d → (t.inv q).made (Rv q n) R l d
  | .op w as, l, d, h => by
    rw [Tr.made] at h
    rw [Tr.inv, Tr.made]
    exact h.inv hq
  | .loop k b, l, 0, h => by rw [Tr.made] at h; exact h.elim
  | .loop k b, l, d + 1, h => by
    rw [Tr.made] at h
    rw [Tr.inv, Tr.made]
    exact ⟨h.1, by rw [invs_len]; exact h.2.1, mades_inv hq b (l / 2) d h.2.2⟩
theorem mades_inv {q : Nat} {n : Int} {R : Int → Prop} (hq : q ∈ prsN) : ∀ (b : List Tr) (l d : Nat), mades (Rv q n) R b l d → mades (Rv q n) R (invs q b) l d
  | [], _, _, _ => by
    rw [invs]
    exact mades_nil
  | t :: r, l, d, h => by
    rw [mades] at h
    rw [invs]
    exact mades_append (mades_inv hq r l d h.2) (mades_one (Tr.made_inv hq t l d h.1))
end
/-! ### promises -/
def spLinvF : Sp := fun vs H Q _ => ∃ (n a : Nat), vs = [.int (n : Int), .int (a : Int)] ∧ n ∈ prsN ∧ 0 < a ∧ a < n ∧ ∀ H', Same H H' → Q (.int (ivq n a)) H'
def spInvd (K : PySem.W.Frag) (d : Nat) : Sp := fun vs H Q _ => ∃ (q : Nat) (n : Int) (v : V) (b : List Tr), vs = [.int (q : Int), v] ∧ q ∈ prsN ∧ BodyAt K H b v ∧ okB d b ∧ allGs (Rv q n) b ∧ ∀ H' v', Same H H' → BodyAt K H' (invs q b) v' → Q v' H'
def spKept (K : PySem.W.Frag) (d : Nat) : Sp := fun vs H Q _ => ∃ (p n : Int) (v : V) (b : List Tr), vs = [.int p, v] ∧ 2 ≤ p ∧ BodyAt K H b v ∧ okB d b ∧ allGs (Dr p n) b ∧ ∀ H' v', Same H H' → BodyAt K H' (kps p b) v' → Q v' H'
def spDeep (K : PySem.W.Frag) (d : Nat) : Sp := fun vs H Q _ => ∃ (v : V) (t : Tr), vs = [v] ∧ TrAt K H t v ∧ okB d [t] ∧ ∀ (m : Int) H', Same H H' → 0 ≤ m → Q (.int m) H'
/-! ### comparing -/
theorem shaped_tup (ns : List Int) : SeqAt.shaped (.tuple (ns.map PyData.int)) = true := by
  unfold SeqAt.shaped
  rw [PyData.canLay0, lay_ints, PyData.depth, depth_ints]
  rfl
theorem shaped_pair (h : List Int × List Int) : SeqAt.shaped (pairD h) = true := by
  unfold SeqAt.shaped pairD
  rw [PyData.canLay0, PyData.canLayAll0, PyData.canLayAll0, PyData.canLayAll0, PyData.canLay0, PyData.canLay0, lay_ints, lay_ints, PyData.depth, PyData.depthAll, PyData.depthAll, PyData.depthAll, PyData.depth, PyData.depth, depth_ints, depth_ints]
  rfl
end Lj
set_option Elab.async false
set_option linter.all false
set_option maxRecDepth 100000
namespace Lj
open PySem PySem.Spec PyProof.Rows L2
set_option maxRecDepth 8000 in
theorem extend_tup (l : Addr) (items : Array Value) (n : Nat) (b : Addr) (items2 : Array Value) (n2 : Nat) (dd : Option Addr) (sl : Array (Option Value)) (hs0 : ¬(!items.isEmpty && Builtin.List.listTooLong (items.size + items2.size)) = true) (hs1 : items.size ≤ sizeLine) (hs2 : items.size + items2.size ≤ sizeLine + 1) :
    Meets (Builtin.«list.extend» ⟨[.ref l, .ref b], []⟩) (fun _ R s => s.heap.get? l = some { cls := .type "list", dict := none, data := .seq items n, slots := #[] } ∧ s.heap.get? b = some { cls := .type "tuple", dict := dd, data := .seq items2 n2, slots := sl } ∧ R (.ok (.ret Value.none)) { s with heap := s.heap.update l (Obj.mapSeq fun x => x ++ items2), toks := s.toks }) :=
  .of_wp fun prog w A R s h => by
    obtain ⟨hp, g, d, tk, os⟩ := s; obtain ⟨hl, hb, h⟩ := h; have f1 := AutoSeq1.idx_int; have f2 := AutoSeq1.sub_tuple_tuple; have f3 := AutoSeq1.sub_list_list; have f4 := AutoSeq1.sub_tuple_list; have f5 := AutoSeq1.sub_list_tuple;
    have hz' : (items ++ items2).size ≤ sizeLine + 1 := by rw [Array.size_append]; exact hs2
    wp_walk using (wpAny_updateSeq hl rfl (hz := hs1) (_hz' := hz')), wpAny_loadPart' hl, wpAny_loadPart' hb; exact ⟨_, rfl, h⟩
def rExtT (K : PySem.W.Frag) : V → List V → Hp → VK → Prop := fun x vs H Q => ∃ l b xs zs, x = .ref l ∧ vs = [.ref b] ∧ H l = some (.lst xs) ∧ SqT K H b zs ∧ xs.length + zs.length ≤ sizeLine ∧ Q .non (upd H l (.lst (xs ++ zs)))
/-- xs.extend(t), t a tuple -/
theorem mt_extendT {X : Cx} : MtM X "list.extend" (rExtT X.K) := by
  intro pins s σ H x vs v us Q I rx rv h
  obtain ⟨l, b, xs, zs, rfl, rfl, hH, hB, hz, q⟩ := h
  cases rx
  obtain ⟨u, rfl, ru⟩ := rv.one
  cases ru
  obtain ⟨z, its, n, r, hl, e⟩ := I.lstM hH
  obtain ⟨its2, r2, ⟨⟨cls, dd, data, sl⟩, e2, hc, n2, hd⟩, z2⟩ := I.tuple hB
  simp only at hc hd
  subst hc hd
  have hl2 := r2.length
  have hsz : its.toArray.size + its2.toArray.size ≤ sizeLine := by rw [List.size_toArray, List.size_toArray]; omega
  have hlong : ¬ (!its.toArray.isEmpty && Builtin.List.listTooLong (its.toArray.size + its2.toArray.size)) = true := by
    rw [notLongL hsz, Bool.and_false]
    exact Bool.false_ne_true
  refine call_meets F.slot_list_extend ⟨_, e, rfl⟩ F.entry_list_extend (F.args_list_extend_2 _ _)
    (extend_tup l its.toArray n b its2.toArray n2 dd sl hlong (by rw [List.size_toArray]; omega) (by omega)) ⟨e, e2, ?_⟩
  refine ⟨.non, _, I.lset (its' := its ++ its2) hH e (by simp) (r.append r2) ?_, rfl, q⟩
  rw [List.length_append]
  omega
end Lj
set_option Elab.async false
set_option linter.all false
set_option maxRecDepth 100000
set_option pp.maxSteps 500
set_option pp.deepTerms.threshold 8
set_option pp.deepTerms false
namespace K16
open PySem PySem.Spec PyProof.Rows L2 Lj
def topS (i : Nat) : Stmt := PySem.Challenge.pw_leastjournal_k16_whole_unrolled_loops.main.body.getD i (.Pass ⟨0, 0, 0, 0⟩)
abbrev s_wall : Stmt := topS 0
theorem sc_wall : FnScope ["k"] ["k"] (defScope s_wall) := ⟨rfl, rfl, rfl, by decide +kernel, rfl, by decide +kernel, by decide +kernel⟩
abbrev sIs_between : Stmt := topS 6
theorem scIs_between : FnScope ["value", "low", "high"] ["value", "low", "high"] (defScope sIs_between) := ⟨rfl, rfl, rfl, by decide +kernel, rfl, by decide +kernel, by decide +kernel⟩
abbrev sStep_count : Stmt := topS 8
theorem scStep_count : FnScope ["program", "instruction"] ["program"] (defScope sStep_count) := ⟨rfl, rfl, rfl, by decide +kernel, rfl, by decide +kernel, by decide +kernel⟩
abbrev sLength : Stmt := topS 9
theorem scLength : FnScope ["instruction"] ["instruction"] (defScope sLength) := ⟨rfl, rfl, rfl, by decide +kernel, rfl, by decide +kernel, by decide +kernel⟩
abbrev sRead_count : Stmt := topS 10
theorem scRead_count : FnScope ["program"] ["program"] (defScope sRead_count) := ⟨rfl, rfl, rfl, by decide +kernel, rfl, by decide +kernel, by decide +kernel⟩
abbrev sWrite_count : Stmt := topS 11
theorem scWrite_count : FnScope ["program"] ["program"] (defScope sWrite_count) := ⟨rfl, rfl, rfl, by decide +kernel, rfl, by decide +kernel, by decide +kernel⟩
abbrev sWord_count : Stmt := topS 12
theorem scWord_count : FnScope ["program", "word", "total", "instruction"] ["program", "word"] (defScope sWord_count) := ⟨rfl, rfl, rfl, by decide +kernel, rfl, by decide +kernel, by decide +kernel⟩
abbrev sLocate : Stmt := topS 13
theorem scLocate : FnScope ["program", "step", "index", "rest", "path", "instruction", "body", "turn"] ["program", "step"] (defScope sLocate) := ⟨rfl, rfl, rfl, by decide +kernel, rfl, by decide +kernel, by decide +kernel⟩
abbrev sPlace : Stmt := topS 14
theorem scPlace : FnScope ["program", "step", "index", "rest"] ["program", "step"] (defScope sPlace) := ⟨rfl, rfl, rfl, by decide +kernel, rfl, by decide +kernel, by decide +kernel⟩
abbrev sReads_before : Stmt := topS 15
theorem scReads_before : FnScope ["program", "moment", "total", "rest", "instruction"] ["program", "moment"] (defScope sReads_before) := ⟨rfl, rfl, rfl, by decide +kernel, rfl, by decide +kernel, by decide +kernel⟩
abbrev sReads_within : Stmt := topS 16
theorem scReads_within : FnScope ["instruction", "moment", "body", "turns", "rest"] ["instruction", "moment"] (defScope sReads_within) := ⟨rfl, rfl, rfl, by decide +kernel, rfl, by decide +kernel, by decide +kernel⟩
abbrev sLast_assignment : Stmt := topS 17
theorem scLast_assignment : FnScope ["program", "moment", "x", "found", "start", "instruction", "steps", "last"] ["program", "moment", "x"] (defScope sLast_assignment) := ⟨rfl, rfl, rfl, by decide +kernel, rfl, by decide +kernel, by decide +kernel⟩
abbrev sLast_within : Stmt := topS 18
theorem scLast_within : FnScope ["instruction", "moment", "x", "body", "steps", "turns", "rest", "last"] ["instruction", "moment", "x"] (defScope sLast_within) := ⟨rfl, rfl, rfl, by decide +kernel, rfl, by decide +kernel, by decide +kernel⟩
abbrev sAssigns : Stmt := topS 19
theorem scAssigns : FnScope ["instruction", "x"] ["instruction", "x"] (defScope sAssigns) := ⟨rfl, rfl, rfl, by decide +kernel, rfl, by decide +kernel, by decide +kernel⟩
abbrev sPexecuted : Stmt := topS 21
theorem scPexecuted : FnScope ["p", "instruction", "row", "after", "word", "x", "y"] ["p", "instruction", "row"] (defScope sPexecuted) := ⟨rfl, rfl, rfl, by decide +kernel, rfl, by decide +kernel, by decide +kernel⟩
abbrev sRun : Stmt := topS 25
theorem scRun : FnScope ["p", "program", "registers", "inputs", "steps", "runner", "instruction"] ["p", "program", "registers", "inputs"] (defScope sRun) := ⟨rfl, rfl, rfl, by decide +kernel, rfl, by decide +kernel, by decide +kernel⟩
abbrev sUnrolled : Stmt := topS 26
theorem scUnrolled : FnScope ["program", "steps", "instruction"] ["program"] (defScope sUnrolled) := ⟨rfl, rfl, rfl, by decide +kernel, rfl, by decide +kernel, by decide +kernel⟩
abbrev sUrn : Stmt := topS 28
theorem scUrn : FnScope ["_law_script", "_law_k", "_law_cell", "_law_own"] ["_law_script", "_law_k"] (defScope sUrn) := ⟨rfl, rfl, rfl, by decide +kernel, rfl, by decide +kernel, by decide +kernel⟩
abbrev sTake : Stmt := topS 29
theorem scTake : FnScope ["_law_urn_here", "_law_below", "_law_digit", "_law_mixed"] ["_law_urn_here", "_law_below"] (defScope sTake) := ⟨rfl, rfl, rfl, by decide +kernel, rfl, by decide +kernel, by decide +kernel⟩
abbrev sOf : Stmt := topS 30
theorem scOf : FnScope ["_law_urn_here", "_law_items"] ["_law_urn_here", "_law_items"] (defScope sOf) := ⟨rfl, rfl, rfl, by decide +kernel, rfl, by decide +kernel, by decide +kernel⟩
abbrev sPrime : Stmt := topS 31
theorem scPrime : FnScope ["_law_urn_here"] ["_law_urn_here"] (defScope sPrime) := ⟨rfl, rfl, rfl, by decide +kernel, rfl, by decide +kernel, by decide +kernel⟩
abbrev sItem : Stmt := topS 32
theorem scItem : FnScope ["_law_urn_here", "_law_p", "_law_n", "_law_words_here", "_law_word", "_law_x", "_law_c", "_law_y"] ["_law_urn_here", "_law_p", "_law_n", "_law_words_here"] (defScope sItem) := ⟨rfl, rfl, rfl, by decide +kernel, rfl, by decide +kernel, by decide +kernel⟩
abbrev sBody : Stmt := topS 33
theorem scBody : FnScope ["_law_urn_here", "_law_p", "_law_n", "_law_words_here", "_law_length", "_law_deep", "_law_rounds", "_law_found", "_law_turn", "_law_inner"] ["_law_urn_here", "_law_p", "_law_n", "_law_words_here", "_law_length", "_law_deep", "_law_rounds"] (defScope sBody) := ⟨rfl, rfl, rfl, by decide +kernel, rfl, by decide +kernel, by decide +kernel⟩
abbrev sWords : Stmt := topS 34
theorem scWords : FnScope [] [] (defScope sWords) := ⟨rfl, rfl, rfl, by decide +kernel, rfl, by decide +kernel, by decide +kernel⟩
abbrev sSteps : Stmt := topS 35
theorem scSteps : FnScope ["_law_program", "_law_item_here"] ["_law_program"] (defScope sSteps) := ⟨rfl, rfl, rfl, by decide +kernel, rfl, by decide +kernel, by decide +kernel⟩
abbrev sExecuted : Stmt := topS 36
theorem scExecuted : FnScope ["_law_program", "_law_found", "_law_item_here", "_law_body_here", "_law_turn"] ["_law_program"] (defScope sExecuted) := ⟨rfl, rfl, rfl, by decide +kernel, rfl, by decide +kernel, by decide +kernel⟩
abbrev sTuple : Stmt := topS 37
theorem scTuple : FnScope ["_law_urn_here", "_law_p", "_law_count", "_law_turn"] ["_law_urn_here", "_law_p", "_law_count"] (defScope sTuple) := ⟨rfl, rfl, rfl, by decide +kernel, rfl, by decide +kernel, by decide +kernel⟩
abbrev sSplit : Stmt := topS 38
theorem scSplit : FnScope ["_law_urn_here", "_law_program", "_law_found", "_law_item_here", "_law_some", "_law_inner", "_law_turn"] ["_law_urn_here", "_law_program"] (defScope sSplit) := ⟨rfl, rfl, rfl, by decide +kernel, rfl, by decide +kernel, by decide +kernel⟩
abbrev sSize : Stmt := topS 39
theorem scSize : FnScope ["_law_program", "_law_item_here"] ["_law_program"] (defScope sSize) := ⟨rfl, rfl, rfl, by decide +kernel, rfl, by decide +kernel, by decide +kernel⟩
abbrev sGreat_right : Stmt := topS 40
theorem scGreat_right : FnScope ["_law_urn_here", "_law_program", "_law_n", "_law_other", "_law_total", "_law_told", "_law_turn", "_law_step", "_law_x"] ["_law_urn_here", "_law_program", "_law_n"] (defScope sGreat_right) := ⟨rfl, rfl, rfl, by decide +kernel, rfl, by decide +kernel, by decide +kernel⟩
abbrev sRun_right : Stmt := topS 41
theorem scRun_right : FnScope ["_law_urn_here", "_law_p", "_law_n", "_law_program", "_law_other", "_law_count", "_law_registers_here", "_law_fed", "_law_item_here"] ["_law_urn_here", "_law_p", "_law_n", "_law_program"] (defScope sRun_right) := ⟨rfl, rfl, rfl, by decide +kernel, rfl, by decide +kernel, by decide +kernel⟩
abbrev sLaw : Stmt := topS 42
theorem scLaw : FnScope ["_law_script", "_law_k", "_law_urn_here", "_law_p", "_law_n", "_law_turn", "_law_small", "_law_words_here", "_law_great"] ["_law_script"] (defScope sLaw) := ⟨rfl, rfl, rfl, by decide +kernel, rfl, by decide +kernel, by decide +kernel⟩
abbrev sRinit : Stmt := inClass (topS 24) 0
theorem scRinit : FnScope ["self", "p", "registers", "inputs"] ["self", "p", "registers", "inputs"] (defScope sRinit) := ⟨rfl, rfl, rfl, by decide +kernel, rfl, by decide +kernel, by decide +kernel⟩
abbrev sRperform : Stmt := inClass (topS 24) 1
theorem scRperform : FnScope ["self", "instruction", "place"] ["self", "instruction"] (defScope sRperform) := ⟨rfl, rfl, rfl, by decide +kernel, rfl, by decide +kernel, by decide +kernel⟩
section
variable {P : Program} {w : World} {K : PySem.W.Frag} {mg : Str → Option Value} {base : Heap}
theorem take_all {α : Type} (b : List α) : b.take b.length = b := List.take_length
/-! ### step_count and length -/
theorem ok_length (M : Bl mg) (F : At K mg "length" sLength ["instruction"]) {n k : Nat} (h : Has P w K mg base k "step_count" ["program"] (spTI K (okB n) lens)) :
    Has P w K mg base (k + 1) "length" ["instruction"] (spII K (fun t => okB (n + 1) [t]) Tr.len) := by
  obtain ⟨fS, fdS, cStep_count⟩ := h
  refine Has.by F scLength (fun vs H Q E h => ?_) (fun f cdv A out s H vs Q E hg hr h => ?_)
  · obtain ⟨v, t, rfl, _⟩ := h
    rfl
  obtain ⟨v, t, rfl, hT, ok, q⟩ := h
  refine ⟨_, (pss_cons (ps_if (pt_cmpR op_eq (pe_ix ix_tup (pv 0) pe_int (fun _ _ => rfl)) pe_str (nomark _))
    (pss_one (ps_ret (pe_op op_mul (pe_ix ix_tup (pv 0) pe_int (fun _ _ => rfl)) (pe_cal cStep_count hg hr (by rfl) (pa_cons (pe_ix ix_tup (pv 0) pe_int (fun _ _ => rfl)) pa_nil)))))
    pss_nil)
  (pss_one (ps_ret pe_int))), ?_⟩
  cases t with
  | op u as =>
    rw [TrAt] at hT
    obtain ⟨a, rfl, sq⟩ := hT
    refine ⟨_, rfl, a, _, 0, .str u, rfl, rfl, sq, at0, rfl, _, rfl, iteN (fun e => okB_op (i := 0) ok rfl (V.str.inj e)) ?_⟩
    exact q H (Same.refl H)
  | loop c b =>
    rw [TrAt] at hT
    obtain ⟨a, d, us, rfl, sq, sq2, r⟩ := hT
    obtain ⟨c0, c1, ok2⟩ := okB_loop (i := 0) ok rfl
    refine ⟨_, rfl, a, _, 0, .str "loop", rfl, rfl, sq, rfl, rfl, _, rfl, iteP rfl ?_⟩
    refine ⟨_, rfl, a, _, 1, .int c, rfl, rfl, sq, rfl, _, rfl, a, _, 2, .ref d, rfl, rfl, sq, rfl, _, b, rfl, ⟨d, us, rfl, sq2, r⟩, ok2, fun H' sm => ?_⟩
    exact ⟨c, _, rfl, rfl, .inl ⟨by omega, by omega⟩, q H' sm⟩
theorem ok_step (M : Bl mg) (F : At K mg "step_count" sStep_count ["program"]) {n k : Nat} (h : Has P w K mg base k "length" ["instruction"] (spII K (fun t => okB (n + 1) [t]) Tr.len)) :
    Has P w K mg base (k + 1) "step_count" ["program"] (spTI K (okB (n + 1)) lens) := by
  obtain ⟨fS, fdS, cLength⟩ := h
  refine Has.by F scStep_count (fun vs H Q E h => ?_) (fun f cdv A out s H vs Q E hg hr h => ?_)
  · obtain ⟨v, t, rfl, _⟩ := h
    rfl
  obtain ⟨v, b, rfl, ⟨c, us, rfl, sq, r⟩, ok, q⟩ := h
  refine ⟨_, (pss_one (ps_ret (pe_callB (cr_sum rfl) (by rfl) M.sum_ (by decide +kernel) (pa_cons (pe_lc (own := [("instruction", 1)]) (g := gName 1) (by rfl) scStep_count.nd (pi_tup (pv 0)) (blkOk_by (own := [("instruction", 1)]) (N := ["program", "instruction"]) (sc := defScope sStep_count) (by decide +kernel)) (fun _ _ _ _ _ => (pg_name (i := 1) scStep_count.nd rfl (.inl rfl))) (fun _ _ _ _ _ => pts_nil) (fun _ _ _ _ _ => (pe_cal cLength hg hr (by rfl) (pa_cons (pv 1) pa_nil)))) pa_nil)))), ?_⟩
  refine ⟨_, rfl, c, rfl, ⟨_, sq⟩, fun D nD => ?_⟩
  refine lc_tup (xs := us) (fun i H' => H' D = some (.lst (((b.take i).map Tr.len).map V.int)) ∧ Same H H') ⟨upd_same, same_new nD⟩ (fun i H' _ h => (Kt.same h.2).sq sq) ?_ ?_
  · rintro i x H' hx ⟨e1, e2⟩
    obtain ⟨t, ht, hT⟩ := r.get hx
    refine ⟨rfl, ?_⟩
    refine ⟨_, rfl, x, t, rfl, TrAt.kt (Kt.same e2) t x hT, ⟨by rw [wfs, wfs]; exact ⟨wfs_get ok.1 ht, trivial⟩, by show 1 ≤ 1000; decide⟩, fun H2 sm => ?_⟩
    refine ⟨_, sm _ _ e1, ?_, ?_, same_upd (e2.trans sm) nD⟩
    · rw [List.length_map, List.length_map, List.length_take]
      exact small1000 (Nat.le_trans (Nat.min_le_right _ _) ok.2)
    · rw [upd_same, map_next ht, List.map_append]
      rfl
  · rintro H' ⟨e1, e2⟩
    rw [r.length, take_all] at e1
    refine ⟨D, _, rfl, SqL.of e1, ?_⟩
    rw [← lens_map]
    exact q H' e2
theorem ok_steps (M : Bl mg) (FL : At K mg "length" sLength ["instruction"]) (FS : At K mg "step_count" sStep_count ["program"]) : ∀ n, Has P w K mg base (2 * n) "step_count" ["program"] (spTI K (okB n) lens)
  | 0 => Has.none FS fun vs H Q E ⟨_, _, _, _, h, _⟩ => h
  | n + 1 => ok_step M FS (ok_length M FL (ok_steps M FL FS n))
/-! ### counts -/
theorem ok_word1 (M : Bl mg) (F : At K mg "word_count" sWord_count ["program", "word"]) {n k : Nat} (h : Has P w K mg base k "word_count" ["program", "word"] (spWI K (okB n))) : Has P w K mg base (k + 1) "word_count" ["program", "word"] (spWI K (okB (n + 1))) := by
  obtain ⟨fS, fdS, cWord_count⟩ := h
  refine Has.by F scWord_count (fun vs H Q E h => ?_) (fun f cdv A out s H vs Q E hg hr h => ?_)
  · obtain ⟨v, t, z, rfl, _⟩ := h
    rfl
  obtain ⟨v, b, z, rfl, ⟨c, us, rfl, sq, r⟩, ok, hz, q⟩ := h
  refine ⟨_, (pss_cons (ps_set (i := 2) scWord_count.nd rfl (.inl rfl) pe_int)
  (pss_cons (ps_for PassesOwn.never rfl (pi_tup (pv 0)) (pg_name (i := 3) scWord_count.nd rfl (.inl rfl))
    (pss_one (ps_if (pt_cmpR op_eq (pe_ix ix_tup (pv 3) pe_int (fun _ _ => rfl)) pe_str (nomark _))
    (pss_one (ps_aug (i := 2) scWord_count.nd rfl (.inl rfl) (pe_op op_mul (pe_ix ix_tup (pv 3) pe_int (fun _ _ => rfl)) (pe_cal cWord_count hg hr (by rfl) (pa_cons (pe_ix ix_tup (pv 3) pe_int (fun _ _ => rfl)) (pa_cons (pv 1) pa_nil)))) ip_add))
    (pss_one (ps_if (pt_cmpR op_eq (pe_ix ix_tup (pv 3) pe_int (fun _ _ => rfl)) (pv 1) (nomark _))
    (pss_one (ps_aug (i := 2) scWord_count.nd rfl (.inl rfl) pe_int ip_add))
    pss_nil)))))
  (pss_one (ps_ret (pv 2))))), ?_⟩
  refine ⟨_, rfl, c, rfl, ⟨_, sq⟩, ?_⟩
  refine for_tup (xs := us) (fun i σ H' => ∃ y, σ = [some (.ref c), some (.str z), some (.int ((b.take i).map (Tr.cnt z)).sum), y] ∧ Same H H') ⟨none, rfl, Same.refl H⟩ (fun i σ H' _ h => ?_) ?_ ?_
  · obtain ⟨_, _, h⟩ := h
    exact (Kt.same h).sq sq
  · rintro i x σ H' hx ⟨y, rfl, e2⟩
    obtain ⟨t, ht, hT⟩ := r.get hx
    have hT := TrAt.kt (Kt.same e2) t x hT
    rw [sum_next ht]
    cases t with
    | op u as =>
      rw [TrAt] at hT
      obtain ⟨a, rfl, sq3⟩ := hT
      refine ⟨_, rfl, a, _, 0, .str u, rfl, rfl, sq3, at0, rfl, _, rfl, iteN (fun e => okB_op ok ht (V.str.inj e)) ?_⟩
      refine ⟨_, rfl, a, _, 0, .str u, rfl, rfl, sq3, at0, _, rfl, rfl, _, rfl, ?_⟩
      by_cases e : u = z
      · refine iteP (congrArg V.str e) ⟨_, rfl, _, _, rfl, rfl, some (.ref a), ?_, e2⟩
        rw [Tr.cnt, if_pos e]
        rfl
      · refine iteN (fun e' => e (V.str.inj e')) ⟨some (.ref a), ?_, e2⟩
        rw [Tr.cnt, if_neg e, Int.add_zero]
        rfl
    | loop m b' =>
      rw [TrAt] at hT
      obtain ⟨a, d, ws, rfl, sq3, sq4, r2⟩ := hT
      obtain ⟨c0, c1, ok2⟩ := okB_loop ok ht
      refine ⟨_, rfl, a, _, 0, .str "loop", rfl, rfl, sq3, rfl, rfl, _, rfl, iteP rfl ?_⟩
      refine ⟨_, rfl, _, rfl, a, _, 1, .int m, rfl, rfl, sq3, rfl, _, rfl, a, _, 2, .ref d, rfl, rfl, sq3, rfl, _, rfl, _, b', z, rfl, ⟨d, ws, rfl, sq4, r2⟩, ok2, hz, fun H2 sm => ?_⟩
      refine ⟨m, _, rfl, rfl, .inl ⟨by omega, by omega⟩, _, _, rfl, rfl, some (.ref a), ?_, e2.trans sm⟩
      rw [Tr.cnt]
      rfl
  · rintro σ H' ⟨y, rfl, e2⟩
    rw [r.length, take_all, ← cnts_map]
    exact ⟨_, rfl, q H' e2⟩
theorem ok_word (M : Bl mg) (F : At K mg "word_count" sWord_count ["program", "word"]) : ∀ n, Has P w K mg base n "word_count" ["program", "word"] (spWI K (okB n))
  | 0 => Has.none F fun vs H Q E ⟨_, _, _, _, _, h, _⟩ => h
  | n + 1 => ok_word1 M F (ok_word M F n)
theorem ok_read (F : At K mg "read_count" sRead_count ["program"]) {n k : Nat} (h : Has P w K mg base k "word_count" ["program", "word"] (spWI K (okB n))) : Has P w K mg base (k + 1) "read_count" ["program"] (spTI K (okB n) (cnts "read")) := by
  obtain ⟨fS, fdS, cWord_count⟩ := h
  refine Has.by F scRead_count (fun vs H Q E h => ?_) (fun f cdv A out s H vs Q E hg hr h => ?_)
  · obtain ⟨v, t, rfl, _⟩ := h
    rfl
  obtain ⟨v, b, rfl, hB, ok, q⟩ := h
  exact ⟨_, (pss_one (ps_ret (pe_cal cWord_count hg hr (by rfl) (pa_cons (pv 0) (pa_cons pe_str pa_nil))))), _, rfl, v, b, "read", rfl, hB, ok, by decide, q⟩
theorem ok_write (F : At K mg "write_count" sWrite_count ["program"]) {n k : Nat} (h : Has P w K mg base k "word_count" ["program", "word"] (spWI K (okB n))) : Has P w K mg base (k + 1) "write_count" ["program"] (spTI K (okB n) (cnts "write")) := by
  obtain ⟨fS, fdS, cWord_count⟩ := h
  refine Has.by F scWrite_count (fun vs H Q E h => ?_) (fun f cdv A out s H vs Q E hg hr h => ?_)
  · obtain ⟨v, t, rfl, _⟩ := h
    rfl
  obtain ⟨v, b, rfl, hB, ok, q⟩ := h
  exact ⟨_, (pss_one (ps_ret (pe_cal cWord_count hg hr (by rfl) (pa_cons (pv 0) (pa_cons pe_str pa_nil))))), _, rfl, v, b, "write", rfl, hB, ok, by decide, q⟩
end
section
variable {P : Program} {w : World} {K : PySem.W.Frag} {mg : Str → Option Value} {base : Heap}
/-! ### executed -/
theorem ok_executed {f : Addr} {fd : FuncData} {k : Nat} (F : Fun K "executed" "executed" sPexecuted f fd) (M : Bl mg) : FnOk P w K mg base CX0 (k + 1) f fd ["p", "instruction", "row"] (spEx K) := by
  refine F.ok scPexecuted (fun vs H Q E h => ?_) (fun cdv A outer s H vs Q E hr h => ?_)
  · obtain ⟨p, n, z, as, v, l, r, rfl, _⟩ := h
    rfl
  obtain ⟨p, n, z, as, v, l, r, rfl, hT, go, nr, p0, p1, sq, rl, q⟩ := h
  rw [TrAt] at hT
  obtain ⟨a, rfl, sa⟩ := hT
  refine ⟨_, (pss_cons (ps_set (i := 3) scPexecuted.nd rfl (.inl rfl) (pe_callTy call_list_of (by rfl) M.list_ (by decide +kernel) (pa_cons (pv 2) pa_nil)))
  (pss_cons (ps_set (i := 4) scPexecuted.nd rfl (.inl rfl) (pe_ix ix_tup (pv 1) pe_int (fun _ _ => rfl)))
  (pss_cons (ps_set (i := 5) scPexecuted.nd rfl (.inl rfl) (pe_op op_add (pe_ix ix_tup (pv 1) pe_int (fun _ _ => rfl)) pe_int))
  (pss_cons (ps_if (pt_cmpR op_eq (pv 4) pe_str (nomark _))
    (pss_one (ps_asg (pe_op op_mod (pe_op op_mul (pe_ix ix_tup (pv 1) pe_int (fun _ _ => rfl)) (pe_ix ix_list (pv 2) pe_int (fun _ _ => rfl))) (pv 0)) (pg_sub (pv 3) (pv 5) set_list)))
    (pss_one (ps_if (pt_cmpR op_eq (pv 4) pe_str (nomark _))
    (pss_one (ps_asg (pe_op op_mod (pe_op op_mul (pe_ix ix_tup (pv 1) pe_int (fun _ _ => rfl)) (pe_ix ix_list (pv 2) (pv 5) (fun _ _ => rfl))) (pv 0)) (pg_sub (pv 3) (pv 5) set_list)))
    (pss_one (ps_if (pt_cmpR op_eq (pv 4) pe_str (nomark _))
    (pss_one (ps_asg (pe_ix ix_list (pv 2) (pe_op op_add (pe_ix ix_tup (pv 1) pe_int (fun _ _ => rfl)) pe_int) (fun _ _ => rfl)) (pg_sub (pv 3) (pv 5) set_list)))
    (pss_one (ps_if (pt_cmpR op_eq (pv 4) pe_str (nomark _))
    (pss_one (ps_asg (pe_op op_mod (pe_op op_add (pe_ix ix_list (pv 2) (pv 5) (fun _ _ => rfl)) (pe_op op_mul (pe_ix ix_tup (pv 1) pe_int (fun _ _ => rfl)) (pe_ix ix_list (pv 2) (pe_op op_add (pe_ix ix_tup (pv 1) pe_int (fun _ _ => rfl)) pe_int) (fun _ _ => rfl)))) (pv 0)) (pg_sub (pv 3) (pv 5) set_list)))
    (pss_one (ps_if (pt_cmpR op_eq (pv 4) pe_str (nomark _))
    (pss_cons (ps_set (i := 6) scPexecuted.nd rfl (.inl rfl) (pe_op op_add (pe_ix ix_tup (pv 1) pe_int (fun _ _ => rfl)) pe_int))
  (pss_one (ps_asg (pe_tup (pa_cons (pe_ix ix_list (pv 2) (pv 6) (fun _ _ => rfl)) (pa_cons (pe_ix ix_list (pv 2) (pv 5) (fun _ _ => rfl)) pa_nil))) (pg_tup rfl (pgs_cons (pg_sub (pv 3) (pv 5) set_list) (pgs_cons (pg_sub (pv 3) (pv 6) set_list) pgs_nil))))))
    pss_nil)))))))))
  (pss_one (ps_ret (pv 3))))))), ?_⟩
  refine ⟨_, rfl, l, _, rfl, .inl sq, fun m nm => ?_⟩
  have sm : Same H (upd H m (.lst (r.map V.int))) := same_new nm
  have sa := (Kt.same sm).sq sa
  have sq := sm.seq sq
  have pp : (0 : Int) < p := by omega
  have ln : (r.map V.int).length = r.length := List.length_map _
  have fin : ∀ r' : List Int, exRow p z as r = r' → Q (.ref m) (upd (upd H m (.lst (r.map V.int))) m (.lst (r'.map V.int))) := fun r' e => q _ m (same_upd sm nm) nm (by rw [upd_same, e])
  refine ⟨_, rfl, a, _, 0, .str z, rfl, rfl, sa, at0, ?_⟩
  rcases go with ⟨rfl | rfl, x, c, rfl, x0, x1, c0, c1⟩ | ⟨rfl | rfl, x, rfl, x0, x1⟩ | ⟨rfl | rfl, x, y, rfl, x0, x1, y0, y1, xy⟩ | ⟨rfl, x, y, c, rfl, x0, x1, y0, y1, xy, c0, c1⟩
  · -- set
    refine ⟨_, rfl, a, _, 1, .int x, rfl, rfl, sa, rfl, _, _, rfl, rfl, ?_⟩
    refine ⟨_, rfl, rfl, _, rfl, iteP rfl ?_⟩
    refine ⟨_, rfl, a, _, 2, .int c, rfl, rfl, sa, rfl, _, rfl, l, _, 0, _, rfl, rfl, sq, at_gt (by decide) (by omega), c, _, rfl, rfl, .inl ⟨by omega, by omega⟩, _, rfl, _, p, rfl, rfl, pp, ?_⟩
    refine ⟨_, rfl, _, rfl, m, _, x + 1, (x + 1).toNat, rfl, rfl, upd_same, ix_sv (by omega) (by omega), ?_⟩
    rw [map_sv]
    exact ⟨_, rfl, fin _ (ex_set _ _ _ _)⟩
  · -- scale
    refine ⟨_, rfl, a, _, 1, .int x, rfl, rfl, sa, rfl, _, _, rfl, rfl, ?_⟩
    refine ⟨_, rfl, rfl, _, rfl, iteN (by decide) ?_⟩
    refine ⟨_, rfl, rfl, _, rfl, iteP rfl ?_⟩
    refine ⟨_, rfl, a, _, 2, .int c, rfl, rfl, sa, rfl, _, rfl, _, rfl, l, _, x + 1, _, rfl, rfl, sq, at_gt (by omega) (by omega), c, _, rfl, rfl, .inl ⟨by omega, by omega⟩, _, rfl, _, p, rfl, rfl, pp, ?_⟩
    refine ⟨_, rfl, _, rfl, m, _, x + 1, (x + 1).toNat, rfl, rfl, upd_same, ix_sv (by omega) (by omega), ?_⟩
    rw [map_sv]
    exact ⟨_, rfl, fin _ (ex_scale _ _ _ _)⟩
  · exact absurd rfl nr
  · -- write
    refine ⟨_, rfl, a, _, 1, .int x, rfl, rfl, sa, rfl, _, _, rfl, rfl, ?_⟩
    refine ⟨_, rfl, rfl, _, rfl, iteN (by decide) ?_⟩
    refine ⟨_, rfl, rfl, _, rfl, iteN (by decide) ?_⟩
    refine ⟨_, rfl, rfl, _, rfl, iteN (by decide) ?_⟩
    refine ⟨_, rfl, rfl, _, rfl, iteN (by decide) ?_⟩
    refine ⟨_, rfl, rfl, _, rfl, iteN (by decide) ?_⟩
    exact ⟨_, rfl, q _ m sm nm upd_same⟩
  · -- copy
    refine ⟨_, rfl, a, _, 1, .int x, rfl, rfl, sa, rfl, _, _, rfl, rfl, ?_⟩
    refine ⟨_, rfl, rfl, _, rfl, iteN (by decide) ?_⟩
    refine ⟨_, rfl, rfl, _, rfl, iteN (by decide) ?_⟩
    refine ⟨_, rfl, rfl, _, rfl, iteP rfl ?_⟩
    refine ⟨_, rfl, _, rfl, a, _, 2, .int y, rfl, rfl, sa, rfl, _, _, rfl, rfl, l, _, y + 1, _, rfl, rfl, sq, at_gt (by omega) (by omega), ?_⟩
    refine ⟨_, rfl, _, rfl, m, _, x + 1, (x + 1).toNat, rfl, rfl, upd_same, ix_sv (by omega) (by omega), ?_⟩
    rw [map_sv]
    exact ⟨_, rfl, fin _ (ex_copy _ _ _ _)⟩
  · -- swap
    refine ⟨_, rfl, a, _, 1, .int x, rfl, rfl, sa, rfl, _, _, rfl, rfl, ?_⟩
    refine ⟨_, rfl, rfl, _, rfl, iteN (by decide) ?_⟩
    refine ⟨_, rfl, rfl, _, rfl, iteN (by decide) ?_⟩
    refine ⟨_, rfl, rfl, _, rfl, iteN (by decide) ?_⟩
    refine ⟨_, rfl, rfl, _, rfl, iteN (by decide) ?_⟩
    refine ⟨_, rfl, rfl, _, rfl, iteP rfl ?_⟩
    refine ⟨_, rfl, a, _, 2, .int y, rfl, rfl, sa, rfl, _, _, rfl, rfl, ?_⟩
    refine ⟨_, rfl, _, rfl, l, _, y + 1, _, rfl, rfl, sq, at_gt (by omega) (by omega), _, rfl, _, rfl, l, _, x + 1, _, rfl, rfl, sq, at_gt (by omega) (by omega), ?_⟩
    refine ⟨(by show 2 ≤ sizeLine; decide), fun t nt => ?_⟩
    have nmt : m ≠ t := ne_of_none upd_same nt
    have st : Same (upd H m (.lst (r.map V.int))) (upd (upd H m (.lst (r.map V.int))) t (.tup [.int (gt r (y + 1)), .int (gt r (x + 1))])) := same_new nt
    refine ⟨t, _, rfl, SqT.of upd_same, rfl, _, _, rfl, ?_⟩
    refine ⟨_, rfl, _, rfl, m, _, x + 1, (x + 1).toNat, rfl, rfl, st _ _ upd_same, ix_sv (by omega) (by omega), ?_⟩
    rw [map_sv]
    refine ⟨_, _, rfl, _, rfl, _, rfl, m, _, y + 1, (y + 1).toNat, rfl, rfl, upd_same, ?_, ?_⟩
    · rw [List.length_map, sv_len]
      exact ix_sv (by omega) (by omega)
    rw [map_sv]
    refine ⟨rfl, _, rfl, q _ m (same_upd (same_upd (sm.trans st) nm) nm) nm ?_⟩
    rw [upd_same, ex_swap]
  · -- add
    refine ⟨_, rfl, a, _, 1, .int x, rfl, rfl, sa, rfl, _, _, rfl, rfl, ?_⟩
    refine ⟨_, rfl, rfl, _, rfl, iteN (by decide) ?_⟩
    refine ⟨_, rfl, rfl, _, rfl, iteN (by decide) ?_⟩
    refine ⟨_, rfl, rfl, _, rfl, iteN (by decide) ?_⟩
    refine ⟨_, rfl, rfl, _, rfl, iteP rfl ?_⟩
    refine ⟨_, rfl, _, rfl, l, _, x + 1, _, rfl, rfl, sq, at_gt (by omega) (by omega), _, rfl, a, _, 3, .int c, rfl, rfl, sa, rfl, _, rfl, _, rfl, a, _, 2, .int y, rfl, rfl, sa, rfl, _, _, rfl, rfl, l, _, y + 1, _, rfl, rfl, sq, at_gt (by omega) (by omega), c, _, rfl, rfl, .inl ⟨by omega, by omega⟩, _, _, rfl, rfl, _, rfl, _, p, rfl, rfl, pp, ?_⟩
    refine ⟨_, rfl, _, rfl, m, _, x + 1, (x + 1).toNat, rfl, rfl, upd_same, ix_sv (by omega) (by omega), ?_⟩
    rw [map_sv]
    exact ⟨_, rfl, fin _ (ex_add _ _ _ _ _)⟩
end
section
variable {P : Program} {w : World} {K : PySem.W.Frag} {mg : Str → Option Value} {base : Heap}
theorem neL {c A B : Prop} [Decidable c] (h : c) (b : B) : if (!decide c) = true then A else B := by
  rw [decide_eq_true h]
  exact b
/-! ### the runner -/
theorem ok_rinit {f C : Addr} {fd : FuncData} {k : Nat} (F : Fun K "__init__" "Runner.__init__" sRinit f fd) (T : RTxt K mg C) : FnOk P w K mg base CX0 (k + 1) f fd ["self", "p", "registers", "inputs"] (spRInit K C) := by
  refine F.ok scRinit (fun vs H Q E h => ?_) (fun cdv A outer s H vs Q E hr h => ?_)
  · obtain ⟨_, _, _, _, _, _, _, rfl, _⟩ := h
    rfl
  obtain ⟨H0, x, dx, rg, g, p, rs, rfl, s0, nx, hx, sq, rl, q⟩ := h
  refine ⟨_, (pss_cons (ps_fld (pv 0) (pv 1) rfl)
  (pss_cons (ps_fld (pv 0) (pe_lst (pa_cons pe_int (StX.pa_star (pv 2) pa_nil))) rfl)
  (pss_cons (ps_fld (pv 0) (pv 3) rfl)
  (pss_cons (ps_fld (pv 0) pe_int rfl)
  (pss_one (ps_fld (pv 0) (pe_lst pa_nil) rfl)))))), ?_⟩
  refine ⟨_, rfl, _, rfl, x, C, dx, [], rfl, hx, T.cl, T.nP, (by show 0 < 1000; decide), ?_⟩
  have s1 : Same H0 (upd H x (.ins C dx (putF "p" (.int p) []))) := same_upd s0 nx
  refine ⟨_, rfl, rg, _, rfl, .inl ((Kt.same s1).sq sq), ?_, fun l nl => ?_⟩
  · rw [List.length_cons, List.append_nil, List.length_map]
    exact small (show rs.length + 1 ≤ 1000 by omega)
  have nxl : x ≠ l := ne_of_none upd_same nl
  have l0 : H0 l = none := s1.free nl
  rw [List.append_nil]
  refine ⟨_, rfl, x, C, dx, _, rfl, (upd_ne nxl).trans upd_same, T.cl, T.nR, (by show 1 < 1000; decide), ?_⟩
  refine ⟨_, rfl, _, rfl, x, C, dx, _, rfl, upd_same, T.cl, T.nG, (by show 2 < 1000; decide), ?_⟩
  refine ⟨_, rfl, x, C, dx, _, rfl, upd_same, T.cl, T.nT, (by show 3 < 1000; decide), ?_⟩
  refine ⟨Nat.zero_le _, fun wl nw => ?_⟩
  have nxw : x ≠ wl := ne_of_none upd_same nw
  refine ⟨_, rfl, x, C, dx, _, rfl, (upd_ne nxw).trans upd_same, T.cl, T.nW, (by show 4 < 1000; decide), ?_⟩
  have s5 := same_upd (o := .ins C dx (putF "taken" (.int 0) (putF "given" (.ref g) (putF "row" (.ref l) (putF "p" (.int p) []))))) (same_upd (o := .ins C dx (putF "given" (.ref g) (putF "row" (.ref l) (putF "p" (.int p) [])))) (same_upd (o := .ins C dx (putF "row" (.ref l) (putF "p" (.int p) []))) (same_upd (o := .lst (V.int 1 :: rs.map V.int)) s1 l0) nx) nx) nx
  have w0 : H0 wl = none := s5.free nw
  have hl5 := (upd_ne (o := .ins C dx (putF "taken" (.int 0) (putF "given" (.ref g) (putF "row" (.ref l) (putF "p" (.int p) []))))) nxl.symm).trans ((upd_ne (o := .ins C dx (putF "given" (.ref g) (putF "row" (.ref l) (putF "p" (.int p) [])))) nxl.symm).trans ((upd_ne (o := .ins C dx (putF "row" (.ref l) (putF "p" (.int p) []))) nxl.symm).trans (upd_same (H := upd H x (.ins C dx (putF "p" (.int p) []))) (a := l) (o := .lst (V.int 1 :: rs.map V.int)))))
  have nlw : l ≠ wl := ne_of_none hl5 nw
  refine q _ ⟨same_upd (same_upd s5 w0) nx, nx, dx, l, wl, l0, w0, nlw, upd_same, ?_, ?_⟩
  · exact (upd_ne nxl.symm).trans ((upd_ne nlw).trans hl5)
  · exact (upd_ne nxw.symm).trans upd_same
theorem ok_perform {f C fE : Addr} {fd fdE : FuncData} {k : Nat} (F : Fun K "perform" "Runner.perform" sRperform f fd) (T : RTxt K mg C) (M : Bl mg) (FE : Fun K "executed" "executed" sPexecuted fE fdE) (bE : Binds K fdE ["p", "instruction", "row"] []) (gE : mg "executed" = some (.ref fE)) :
    FnOk P w K mg base CX0 (k + 2) f fd ["self", "instruction"] (spPerf K C) := by
  have GE : FnOk P w K mg base CX0 (k + 1) fE fdE ["p", "instruction", "row"] (spEx K) := ok_executed FE M
  refine F.ok scRperform (fun vs H Q E h => ?_) (fun cdv A outer s H vs Q E hr h => ?_)
  · obtain ⟨_, _, _, _, _, _, _, _, _, _, rfl, _⟩ := h
    rfl
  obtain ⟨H0, x, g, p, n, st, v, z, as, is, rfl, ⟨s0, nx, dx, l, wl, l0, w0, nlw, hx, hl, hw⟩, hT, sg, go, p0, p1, rl, rd, wb, q⟩ := h
  have hT1 := TrAt.kt (Kt.same s0) _ _ hT
  have hT0 := hT1
  rw [TrAt] at hT1
  obtain ⟨a, rfl, sa⟩ := hT1
  have sg1 := (Kt.same s0).sq sg
  have nlx : l ≠ x := ne_of hl hx (by intro e; cases e)
  have nwx : wl ≠ x := ne_of hw hx (by intro e; cases e)
  obtain ⟨x0, as', rfl, xa, xb⟩ : ∃ x0 as', as = x0 :: as' ∧ 0 ≤ x0 ∧ x0 < n := by
    rcases go with ⟨_, x, c, rfl, a, b, _⟩ | ⟨_, x, rfl, a, b⟩ | ⟨_, x, y, rfl, a, b, _⟩ | ⟨_, x, y, c, rfl, a, b, _⟩ <;> exact ⟨_, _, rfl, a, b⟩
  refine ⟨_, (pss_cons (ps_set (i := 2) scRperform.nd rfl (.inl rfl) (pe_op op_add (pe_ix ix_tup (pv 1) pe_int (fun _ _ => rfl)) pe_int))
  (pss_one (ps_if (pt_cmpR op_eq (pe_ix ix_tup (pv 1) pe_int (fun _ _ => rfl)) pe_str (nomark _))
    (pss_cons (ps_asg (pe_ix ix_tup (pe_fld (pv 0) rfl) (pe_fld (pv 0) rfl) (fun _ _ => rfl)) (pg_sub (pe_fld (pv 0) rfl) (pv 2) set_list))
  (pss_one (ps_fldaug (pv 0) pe_int in_add)))
    (pss_one (ps_if (pt_cmpR op_eq (pe_ix ix_tup (pv 1) pe_int (fun _ _ => rfl)) pe_str (nomark _))
    (pss_one (ps_expr (pe_bm PySem.F.plainAttrs_list PySem.F.slot_list_append PySem.F.type_list_append mt_append (pe_fld (pv 0) rfl) (pa_cons (pe_ix ix_list (pe_fld (pv 0) rfl) (pv 2) (fun _ _ => rfl)) pa_nil))))
    (pss_one (ps_fld (pv 0) (pe_call GE hr (by rfl) gE FE.kp bE .nil pass0 (pa_cons (pe_fld (pv 0) rfl) (pa_cons (pv 1) (pa_cons (pe_fld (pv 0) rfl) pa_nil)))) rfl))))))), ?_⟩
  refine ⟨_, rfl, a, _, 1, .int x0, rfl, rfl, sa, atI_nat (j := 1) rfl, _, _, rfl, rfl, ?_⟩
  refine ⟨_, rfl, a, _, 0, .str z, rfl, rfl, sa, at0, rfl, _, rfl, ?_⟩
  by_cases c1 : z = "read"
  · subst c1
    have tk := rd rfl
    refine iteP rfl ?_
    refine ⟨_, rfl, x, C, dx, _, _, rfl, hx, T.cl, T.nG, rf_given _ _ _ _ _, _, rfl, x, C, dx, _, _, rfl, hx, T.cl, T.nT, rf_taken _ _ _ _ _, g, _, (st.tk : Int), _, rfl, rfl, sg1, at_gt (by omega) (by omega), ?_⟩
    refine ⟨_, rfl, x, C, dx, _, _, rfl, hx, T.cl, T.nR, rf_row _ _ _ _ _, _, rfl, l, _, x0 + 1, (x0 + 1).toNat, rfl, rfl, hl, ?_, ?_⟩
    · rw [List.length_map]
      exact ix_sv (by omega) (by omega)
    rw [map_sv]
    refine ⟨_, rfl, x, C, dx, _, _, rfl, (upd_ne nlx.symm).trans hx, T.cl, T.nT, rf_taken _ _ _ _ _, _, _, rfl, rfl, dx, _, (upd_ne nlx.symm).trans hx, (by show 5 < 1000; decide), ?_⟩
    refine q _ ⟨same_upd (same_upd s0 l0) nx, nx, dx, l, wl, l0, w0, nlw, ?_, ?_, ?_⟩
    · rw [upd_same, stp_read]
      rfl
    · rw [upd_ne nlx, upd_same, stp_read]
      rfl
    · rw [upd_ne nwx, upd_ne nlw.symm, hw, stp_read]
  · refine iteN (fun e => c1 (V.str.inj e)) ?_
    refine ⟨_, rfl, a, _, 0, .str z, rfl, rfl, sa, at0, rfl, _, rfl, ?_⟩
    by_cases c2 : z = "write"
    · subst c2
      refine iteP rfl ?_
      refine ⟨_, rfl, x, C, dx, _, _, rfl, hx, T.cl, T.nW, rf_written _ _ _ _ _, .inl ⟨rfl, _, SqL.of hw⟩, _, rfl, x, C, dx, _, _, rfl, hx, T.cl, T.nR, rf_row _ _ _ _ _, _, rfl, l, _, x0 + 1, _, rfl, rfl, SqL.of hl, at_gt (by omega) (by omega), wl, _, _, rfl, rfl, hw, ?_, ?_⟩
      · rw [List.length_map, sizeLine_eq]
        omega
      refine q _ ⟨same_upd s0 w0, nx, dx, l, wl, l0, w0, nlw, ?_, ?_, ?_⟩
      · rw [upd_ne nwx.symm, hx, stp_write]
      · rw [upd_ne nlw, hl, stp_write]
      · rw [upd_same, stp_write, List.map_append]
        rfl
    · refine iteN (fun e => c2 (V.str.inj e)) ?_
      refine ⟨_, rfl, x, C, dx, _, _, rfl, hx, T.cl, T.nP, rf_p _ _ _ _ _, _, rfl, _, rfl, x, C, dx, _, _, rfl, hx, T.cl, T.nR, rf_row _ _ _ _ _, p, n, z, x0 :: as', _, l, st.row, rfl, hT0, go, c1, p0, p1, SqL.of hl, rl, fun H' m sm nm hm => ?_⟩
      have nxm : x ≠ m := ne_of_none hx nm
      have nwm : wl ≠ m := ne_of_none hw nm
      refine ⟨_, rfl, x, C, dx, _, rfl, sm _ _ hx, T.cl, T.nR, (by show 5 < 1000; decide), ?_⟩
      refine q _ ⟨same_upd (s0.trans sm) nx, nx, dx, m, wl, s0.free nm, w0, nwm.symm, ?_, ?_, ?_⟩
      · rw [upd_same, stp_else c1 c2]
        rfl
      · rw [upd_ne nxm.symm, hm, stp_else c1 c2]
      · rw [upd_ne nwx, sm _ _ hw, stp_else c1 c2]
/-! ### unrolled -/
theorem fl_take {b : List Tr} {i : Nat} {t : Tr} (e : b[i]? = some t) : exs (b.take (i + 1)) = exs (b.take i) ++ t.ex := flat_takeL e
theorem fl_le {b : List Tr} {i : Nat} {t : Tr} (e : b[i]? = some t) : (exs (b.take i)).length + t.ex.length ≤ (exs b).length := by
  have h : exs b = exs (b.take (i + 1)) ++ exs (b.drop (i + 1)) := exs_split b (i + 1)
  rw [h, fl_take e, List.length_append, List.length_append]
  omega
theorem trs_rep {H : Hp} {b : List Tr} {vs : List V} (h : TrsAt K H b vs) : ∀ n : Nat, TrsAt K H (List.replicate n b).flatten (List.replicate n vs).flatten
  | 0 => TrsAt.nil
  | n + 1 => by
    rw [List.replicate_succ, List.flatten_cons, List.replicate_succ, List.flatten_cons]
    exact h.append (trs_rep h n)
theorem ok_unr1 (M : Bl mg) (F : At K mg "unrolled" sUnrolled ["program"]) {d k : Nat} (h : Has P w K mg base k "unrolled" ["program"] (spUnr K d)) (hL : Has P w K mg base k "length" ["instruction"] (spII K (fun t => okB (d + 1) [t]) Tr.len)) : Has P w K mg base (k + 1) "unrolled" ["program"] (spUnr K (d + 1)) := by
  obtain ⟨_, _, cUnrolled⟩ := h
  obtain ⟨_, _, cLength⟩ := hL
  refine Has.by F scUnrolled (fun vs H Q E h => ?_) (fun f cdv A out s H vs Q E hg hr h => ?_)
  · obtain ⟨_, _, rfl, _⟩ := h
    rfl
  obtain ⟨v, b, rfl, ⟨c, us, rfl, sq, r⟩, ok, fin, big, q⟩ := h
  refine ⟨_, (pss_cons (ps_set (i := 1) scUnrolled.nd rfl (.inl rfl) (pe_lst pa_nil))
  (pss_cons (ps_for PassesOwn.never rfl (pi_tup (pv 0)) (pg_name (i := 2) scUnrolled.nd rfl (.inl rfl))
    (pss_one (ps_if (pt_cmpR op_ne (pe_ix ix_tup (pv 2) pe_int (fun _ _ => rfl)) pe_str (nomark _))
    (pss_one (ps_expr (pe_bm PySem.F.plainAttrs_list PySem.F.slot_list_append PySem.F.type_list_append mt_append (pv 1) (pa_cons (pv 2) pa_nil))))
    (pss_one (ps_if (pt_cmpR op_gt (pe_cal cLength hg hr (by rfl) (pa_cons (pv 2) pa_nil)) pe_int (nomark _))
    (pss_one (ps_expr (pe_bm PySem.F.plainAttrs_list PySem.F.slot_list_extend PySem.F.type_list_extend mt_extend (pv 1) (pa_cons (pe_op op_rep (pe_cal cUnrolled hg hr (by rfl) (pa_cons (pe_ix ix_tup (pv 2) pe_int (fun _ _ => rfl)) pa_nil)) (pe_ix ix_tup (pv 2) pe_int (fun _ _ => rfl))) pa_nil))))
    pss_nil)))))
  (pss_one (ps_ret (pv 1))))), ?_⟩
  refine ⟨Nat.zero_le _, fun fo nfo => ?_⟩
  refine ⟨_, rfl, c, rfl, ⟨_, (Kt.same (same_new nfo)).sq sq⟩, ?_⟩
  refine for_tup (xs := us) (fun i σ H' => ∃ y2 zs, σ = [some (.ref c), some (.ref fo), y2] ∧ Same H H' ∧ H' fo = some (.lst zs) ∧ TrsAt K H' (exs (b.take i)) zs) ⟨none, [], rfl, same_new nfo, upd_same, TrsAt.nil⟩ ?_ ?_ ?_
  · rintro i σ H' _ ⟨_, _, _, h, _⟩
    exact (Kt.same h).sq sq
  · rintro i x σ H2 hx ⟨y2, zs, rfl, s2, h2, t2⟩
    obtain ⟨t, ht, hT⟩ := r.get hx
    have hT := TrAt.kt (Kt.same s2) t x hT
    have bd := fl_le ht
    have zl := t2.length
    rw [fl_take ht]
    cases t with
    | op z as =>
      have hT0 := hT
      rw [TrAt] at hT
      obtain ⟨a, rfl, sq3⟩ := hT
      refine ⟨_, rfl, a, _, 0, .str z, rfl, rfl, sq3, at0, rfl, _, rfl, iteNN (fun e => okB_op ok ht (V.str.inj e)) ?_⟩
      refine ⟨_, rfl, .inl ⟨rfl, _, SqL.of h2⟩, _, rfl, fo, _, _, rfl, rfl, h2, ?_, ?_⟩
      · rw [zl, sizeLine_eq]
        rw [Tr.ex] at bd
        have : [Tr.op z as].length = 1 := rfl
        omega
      · have kt : Kt H2 (upd H2 fo (.lst (zs ++ [.ref a]))) := Kt.but But.upd h2
        exact ⟨_, _, rfl, same_upd s2 nfo, upd_same, (TrsAt.kt kt _ _ t2).append (by rw [Tr.ex]; exact TrsAt.one (TrAt.kt kt _ _ hT0))⟩
    | loop m b' =>
      have hT0 := hT
      have wf := wfs_get ok.1 ht
      have el := Tr.ex_len _ _ wf
      rw [TrAt] at hT
      obtain ⟨a, g, ws, rfl, sq3, sq4, r2⟩ := hT
      obtain ⟨c0, c1, ok2⟩ := okB_loop ok ht
      have fin2 := fines_get fin ht
      rw [Tr.fine] at fin2
      refine ⟨_, rfl, a, _, 0, .str "loop", rfl, rfl, sq3, rfl, rfl, _, rfl, neL rfl ?_⟩
      refine ⟨_, rfl, _, _, rfl, hT0, ⟨by rw [wfs, wfs]; exact ⟨wf, trivial⟩, by show 1 ≤ 1000; decide⟩, fun H3 s3 => ?_⟩
      refine ⟨_, _, rfl, rfl, _, rfl, ite2 (fun c => ?_) (fun c => ?_)⟩
      · refine ⟨_, rfl, .inl ⟨rfl, _, SqL.of (s3 _ _ h2)⟩, ?_⟩
        refine ⟨_, rfl, a, _, 2, .ref g, rfl, rfl, (Kt.same s3).sq sq3, rfl, _, b', rfl, ⟨g, ws, rfl, (Kt.same s3).sq sq4, TrsAt.kt (Kt.same s3) _ _ r2⟩, ok2, fin2.2, fin2.1, fun H4 l2 us2 s4 n4 h4 t4 => ?_⟩
        have e4 := t4.length
        have bd2 : m.toNat * (exs b').length ≤ (exs b).length := by
          rw [Tr.ex, flat_len] at bd
          omega
        have cm : m ≤ 100000 := by
          have c' : 0 < Tr.len (.loop m b') := of_decide_eq_true c
          rw [← el, Tr.ex, flat_len] at c'
          have : 0 < (exs b').length := Nat.pos_of_ne_zero fun e => by
            rw [e, Nat.mul_zero] at c'
            omega
          have : m.toNat ≤ m.toNat * (exs b').length := Nat.le_mul_of_pos_right _ this
          omega
        refine ⟨_, rfl, a, _, 1, .int m, rfl, rfl, (Kt.same (s3.trans s4)).sq sq3, rfl, l2, m, us2, rfl, rfl, h4, by omega, by omega, ?_, fun e ne => ?_⟩
        · rw [e4, sizeLine_eq, Nat.mul_comm]
          omega
        have h2' : (upd H4 e (.lst (List.replicate m.toNat us2).flatten)) fo = some (.lst zs) := same_new ne _ _ (s4 _ _ (s3 _ _ h2))
        refine ⟨fo, e, _, _, rfl, rfl, h2', upd_same, ?_, ?_⟩
        · rw [flat_len, zl, e4, sizeLine_eq]
          rw [Tr.ex, flat_len] at bd
          omega
        · have kt : Kt H4 (upd (upd H4 e (.lst (List.replicate m.toNat us2).flatten)) fo (.lst (zs ++ (List.replicate m.toNat us2).flatten))) := (Kt.same (same_new ne)).trans (Kt.but But.upd h2')
          refine ⟨_, _, rfl, same_upd ((s2.trans (s3.trans s4)).trans (same_new ne)) nfo, upd_same, (TrsAt.kt ((Kt.same (s3.trans s4)).trans kt) _ _ t2).append ?_⟩
          rw [Tr.ex]
          exact trs_rep (TrsAt.kt kt _ _ t4) _
      · have c' : ¬ 0 < Tr.len (.loop m b') := fun h => c (decide_eq_true h)
        have z0 : (Tr.ex (.loop m b')).length = 0 := by omega
        rw [List.length_eq_zero_iff.mp z0, List.append_nil]
        exact ⟨_, _, rfl, s2.trans s3, s3 _ _ h2, TrsAt.kt (Kt.same s3) _ _ t2⟩
  · rintro σ H2 ⟨y2, zs, rfl, s2, h2, t2⟩
    rw [r.length, take_all] at t2
    exact ⟨_, rfl, q H2 fo zs s2 nfo h2 t2⟩
theorem ok_unr (M : Bl mg) (F : At K mg "unrolled" sUnrolled ["program"]) (FL : At K mg "length" sLength ["instruction"]) (FS : At K mg "step_count" sStep_count ["program"]) : ∀ d, Has P w K mg base (2 * d) "unrolled" ["program"] (spUnr K d)
  | 0 => Has.none F fun vs H Q E ⟨_, _, _, _, h, _⟩ => h
  | d + 1 => ok_unr1 M F ((ok_unr M F FL FS d).up (Nat.le_succ _)) (ok_length M FL (ok_steps M FL FS d))
/-! ### run -/
theorem ok_run (M : Bl mg) (F : At K mg "run" sRun ["p", "program", "registers", "inputs"]) {tkn : Tok} (g_MAX_STEPS : mg "MAX_STEPS" = some (.int 20000 tkn)) {C fI fP : Addr} {fdI fdP : FuncData} (T : RTxt K mg C) (MK : Mk K C fI) {d k : Nat} (kd : 2 ≤ k)
    (GI : FnOk P w K mg base CX0 1 fI fdI ["self", "p", "registers", "inputs"] (spRInit K C)) (bI : Binds K fdI ["self", "p", "registers", "inputs"] []) (GP : FnOk P w K mg base CX0 2 fP fdP ["self", "instruction"] (spPerf K C)) (bP : Binds K fdP ["self", "instruction"] []) (mP : Meth K C "perform" fP)
    (hS : Has P w K mg base k "step_count" ["program"] (spTI K (okB (d + 1)) lens)) (hU : Has P w K mg base k "unrolled" ["program"] (spUnr K (d + 1))) : Has P w K mg base (k + 1) "run" ["p", "program", "registers", "inputs"] (spRun K (d + 1)) := by
  obtain ⟨_, _, cStep_count⟩ := hS
  obtain ⟨_, _, cUnrolled⟩ := hU
  refine Has.by F scRun (fun vs H Q E h => ?_) (fun f cdv A out s H vs Q E hg hr h => ?_)
  · obtain ⟨_, _, _, _, _, _, _, _, rfl, _⟩ := h
    rfl
  obtain ⟨p, n, v, b, rg, g, rs, is, rfl, hB, ok, fin, big, gd, p0, p1, n1, sr, rl, sg, rcl, q⟩ := h
  have hr2 := hr.mono (j := 2) kd
  have el := exs_len b d ok.1
  refine ⟨_, (pss_cons (ps_set (i := 4) scRun.nd rfl (.inl rfl) (pe_cal cStep_count hg hr (by rfl) (pa_cons (pv 1) pa_nil)))
  (pss_cons (ps_if (pt_cmpR op_gt (pv 4) (pe_glob (v := .int 20000) (by rfl) g_MAX_STEPS ⟨_, rfl⟩) (nomark _))
    (pss_one ps_never)
    pss_nil)
  (pss_cons (ps_set (i := 5) scRun.nd rfl (.inl rfl) (pe_make MK GI hr2 (by rfl) T.mgC bI .nil pass0 (pa_cons (pv 0) (pa_cons (pv 2) (pa_cons (pv 3) pa_nil)))))
  (pss_cons (ps_for PassesOwn.never rfl (pi_list (pe_cal cUnrolled hg hr (by rfl) (pa_cons (pv 1) pa_nil))) (pg_name (i := 6) scRun.nd rfl (.inl rfl))
    (pss_one (ps_expr (pe_meth (pv 5) T.cl mP GP hr2 bP .nil pass0 (pa_cons (pv 6) pa_nil)))))
  (pss_one (ps_ret (pe_tup (pa_cons (pe_callTy call_tuple_of (by rfl) M.tuple_ (by decide +kernel) (pa_cons (pe_slice sl_list (pe_fld (pv 5) rfl) (po_some pe_int) po_none) pa_nil)) (pa_cons (pe_callTy call_tuple_of (by rfl) M.tuple_ (by decide +kernel) (pa_cons (pe_fld (pv 5) rfl) pa_nil)) pa_nil))))))))), ?_⟩
  refine ⟨_, rfl, v, b, rfl, hB, ok, fun H1 s1 => ?_⟩
  refine ⟨_, rfl, _, _, rfl, rfl, _, rfl, iteN (by omega) ?_⟩
  -- the runner
  refine ⟨_, rfl, _, rfl, _, rfl, fun x dx nx ndx ndxx => ?_⟩
  have s2 : Same H1 (upd (upd H1 dx (.own x)) x (.ins C dx [])) := (same_new ndx).trans (same_new (by rw [upd_ne ndxx.symm]; exact nx))
  refine ⟨H1, x, dx, rg, g, p, rs, rfl, s2, nx, upd_same, (Kt.same s1).sq sr, by omega, fun H3 R3 => ⟨rfl, ?_⟩⟩
  obtain ⟨s3, _, dx3, l, wl, l0, w0, nlw, hx3, hl3, hw3⟩ := R3
  refine ⟨_, rfl, v, b, rfl, hB.kt (Kt.same (s1.trans s3)), ok, fin, by omega, fun H4 l2 us s4 n4 h4 t4 => ?_⟩
  have nx2 : x ≠ l2 := ne_of_none hx3 n4
  have nl2 : l ≠ l2 := ne_of_none hl3 n4
  have nw2 : wl ≠ l2 := ne_of_none hw3 n4
  have b2 : l2 ∉ [x, l, wl] := by
    simp only [List.mem_cons, List.not_mem_nil, or_false, not_or]
    exact ⟨nx2.symm, nl2.symm, nw2.symm⟩
  have kt : Kt H4 (wo [x, l, wl] H4) := wo_kt fun y m => by
    simp only [List.mem_cons, List.not_mem_nil, or_false] at m
    rcases m with rfl | rfl | rfl
    · exact .inl ⟨_, _, _, s4 _ _ hx3⟩
    · exact .inr ⟨_, s4 _ _ hl3⟩
    · exact .inr ⟨_, s4 _ _ hw3⟩
  have old : Same H (wo [x, l, wl] H4) := fun y o e => wo_at (s4 _ _ (s3 _ _ (s1 _ _ e))) (by
    simp only [List.mem_cons, List.not_mem_nil, or_false, not_or]
    exact ⟨ne_of_none (s1 _ _ e) nx, ne_of_none (s1 _ _ e) l0, ne_of_none (s1 _ _ e) w0⟩)
  have tr := TrsAt.kt kt _ _ t4
  have sg0 : SqT K (wo [x, l, wl] H4) g (is.map V.int) := (Kt.same old).sq sg
  have hl2 : wo [x, l, wl] H4 l2 = some (.lst us) := wo_at h4 b2
  refine ⟨l2, rfl, ⟨_, SqL.of h4⟩, ?_⟩
  refine for_list (K := K) (a := l2) (xs := us) (fun i σ H' => ∃ y6, σ = [some (.int p), some v, some (.ref rg), some (.ref g), some (.int (lens b)), some (.ref x), y6] ∧ RunAt C (wo [x, l, wl] H4) H' x p g (rns p is (run0 rs) ((exs b).take i))) ⟨none, rfl, wo_on, wo_no (by simp), dx3, l, wl, wo_no (by simp), wo_no (by simp), nlw, s4 _ _ hx3, s4 _ _ hl3, s4 _ _ hw3⟩ ?_ ?_ ?_
  · rintro i σ H' _ ⟨_, _, R⟩
    exact SqL.of (R.1 _ _ hl2)
  · rintro i y σ H' hy ⟨y6, rfl, R⟩
    obtain ⟨t, ht, hT⟩ := tr.get hy
    obtain ⟨z, as, rfl, go⟩ := gd t (List.mem_of_getElem? ht)
    have tk := rns_tk (is := is) (s := run0 rs) (gd.take i)
    have wr := rns_wr (is := is) (s := run0 rs) (gd.take i)
    have le := rns_len (is := is) (s := run0 rs) (gd.take i)
    obtain ⟨_, _, dx5, l5, wl5, _, _, _, hx5, _⟩ := id R
    refine ⟨_, rfl, x, dx5, _, rfl, hx5, rf_perform _ _ _ _ _, _, rfl, _, x, g, p, n, _, y, z, as, is, rfl, R, hT, sg0, go, p0, p1, ?_, fun e => ?_, ?_, fun H6 R6 => ?_⟩
    · rw [le]
      show (((1 : Int) :: rs).length : Int) = _
      rw [List.length_cons]
      omega
    · subst e
      have h1 := rc_take (exs b) (i + 1)
      rw [List.take_add_one, ht, rc_append] at h1
      have h2 : rc (some (Tr.op "read" as)).toList = 1 := rfl
      have h3 : ((run0 rs).tk : Int) = 0 := rfl
      omega
    · rw [wr]
      have h1 := wc_le ((exs b).take i)
      have h2 : (run0 rs).wr.length = 0 := rfl
      have h3 := List.length_take_le i (exs b)
      rw [List.length_take] at h1
      omega
    · refine ⟨_, rfl, ?_⟩
      rw [rns_next ht]
      exact R6
  · rintro σ H' ⟨y6, rfl, R⟩
    rw [t4.length, List.take_length] at R
    obtain ⟨s7, _, dx5, l5, wl5, l50, w50, nlw5, hx5, hl5, hw5⟩ := R
    have hn : ((run0 rs).row.length : Int) = n + 1 := by
      show (((1 : Int) :: rs).length : Int) = _
      rw [List.length_cons]
      omega
    have le := rns_len (is := is) (s := run0 rs) gd
    obtain ⟨r0, rt, er⟩ : ∃ r0 rt, (rns p is (run0 rs) (exs b)).row = r0 :: rt := by
      cases e : (rns p is (run0 rs) (exs b)).row with
      | nil => rw [e] at le; simp [run0] at le
      | cons r0 rt => exact ⟨r0, rt, rfl⟩
    refine ⟨_, rfl, x, C, dx5, _, _, rfl, hx5, T.cl, T.nR, rf_row _ _ _ _ _, _, rfl, l5, _, rfl, SqL.of hl5, fun e1 ne1 => ?_⟩
    have nx1 := ne_of_none hx5 ne1
    have nw1 := ne_of_none hw5 ne1
    refine ⟨e1, _, rfl, .inl ⟨SqL.of upd_same, fun t1 nt1 => ?_⟩⟩
    have nx3 : x ≠ t1 := fun e => by rw [← e, upd_ne nx1, hx5] at nt1; cases nt1
    have nw3 : wl5 ≠ t1 := fun e => by rw [← e, upd_ne nw1, hw5] at nt1; cases nt1
    refine ⟨_, rfl, x, C, dx5, _, _, rfl, (upd_ne nx3).trans ((upd_ne nx1).trans hx5), T.cl, T.nW, rf_written _ _ _ _ _, wl5, _, rfl, .inl ⟨SqL.of ((upd_ne nw3).trans ((upd_ne nw1).trans hw5)), fun t2 nt2 => ?_⟩⟩
    have n12 : t1 ≠ t2 := ne_of_none upd_same nt2
    refine ⟨(by show 2 ≤ sizeLine; decide), fun t nt => ?_⟩
    have n1t : t1 ≠ t := fun e => by rw [← e, upd_ne n12, upd_same] at nt; cases nt
    have n2t : t2 ≠ t := ne_of_none upd_same nt
    have sA : Same H H' := old.trans s7
    have sB := ((sA.trans (same_new ne1)).trans (same_new nt1)).trans (same_new (o := .tup ((rns p is (run0 rs) (exs b)).wr.map V.int)) nt2)
    refine q _ t t1 t2 (sB.trans (same_new nt)) (sB.free nt) upd_same ?_ ?_
    · rw [upd_ne n1t, upd_ne n12, upd_same, er, List.map_cons, cut_tail]
      rfl
    · rw [upd_ne n2t, upd_same]
end
end K16
set_option Elab.async false
set_option linter.all false
set_option maxRecDepth 100000
set_option pp.maxSteps 500
set_option pp.deepTerms.threshold 8
set_option pp.deepTerms false
namespace K16
open PySem PySem.Spec PyProof.Rows L2 Lj
section
variable {P : Program} {w : World} {K : PySem.W.Frag} {mg : Str → Option Value} {base : Heap}
theorem ok_urn {f : Addr} {fd : FuncData} {k : Nat} (F : Fun K "_law_urn" "_law_urn" sUrn f fd) (ml : mg "len" = none) (ma : mg "abs" = none) (mi : mg "int" = none) :
    FnOk P w K mg base CX0 (k + 1) f fd ["_law_script", "_law_k"] (spUrn K) := by
  refine F.ok scUrn (fun vs H Q E h => ?_) (fun cdv A outer s H vs Q E hr h => ?_)
  · obtain ⟨a, ns, k, rfl, _⟩ := h
    rfl
  obtain ⟨a, ns, k, rfl, hS, h0, h1, q⟩ := h
  refine ⟨_, Evl.pss_cut (ps_set (i := 2) scUrn.nd rfl (.inl rfl) (pe_ifExp (pt_cmpR op_lt (pv 1) (pe_callB call_len_seq (by rfl) ml PySem.boot_len (pa_cons (pv 0) pa_nil)) (nomark _)) (pe_ix ix_list (pv 0) (pv 1) (fun _ _ => rfl)) (pe_op op_add (pe_op op_mul pe_int (pv 1)) pe_int)))
    (pss_cons (ps_set (i := 3) scUrn.nd rfl (.inl rfl) (pe_op op_mul (pe_op op_mod (pe_callB call_abs (by rfl) ma (by decide +kernel) (pa_cons (pv 2) pa_nil)) (pe_callTy call_int_str (by rfl) mi (by decide +kernel) (pa_cons (pe_op op_add_str pe_str (pe_op op_mulS pe_str pe_int)) pa_nil)))
       (pe_callTy call_int1 (by rfl) mi (by decide +kernel) (pa_cons (pe_cmpR op_ge (pe_callB call_abs (by rfl) ma (by decide +kernel) (pa_cons (pv 2) pa_nil)) (pe_op op_pow pe_int pe_int) (nomark _)) pa_nil))))
    (pss_one (ps_ret (pe_lst (pa_cons (pv 3) (pa_cons (pe_op op_mod (pe_op op_mul (pe_op op_add (pe_op op_add (pe_op op_mod (pv 2) pe_int) (pe_op op_mul (pe_op op_mul pe_int (pv 1)) (pv 1))) pe_int) pe_int) pe_int) pa_nil)))))), ?_⟩
  refine ⟨fun σ H' => ∃ c : Int, σ = [some (.ref a), some (.int k), some (.int c), none] ∧ H' = H, ?_, ?_⟩
  · refine ⟨_, rfl, _, rfl, a, _, rfl, .inl hS, _, _, rfl, rfl, _, rfl, ite2 (fun c => ?_) (fun c => ?_)⟩
    · have c' : k < (((ns.map V.int).length : Nat) : Int) := of_decide_eq_true c
      rw [List.length_map] at c'
      obtain ⟨v, _, hv⟩ := at_int (ns := ns) h0 c'
      exact ⟨_, rfl, _, rfl, a, _, _, _, rfl, rfl, hS, hv, v, rfl, rfl⟩
    · exact ⟨_, rfl, 3, k, rfl, rfl, .inl ⟨by decide, by decide⟩, _, _, rfl, rfl, _, rfl, rfl⟩
  · rintro σ' H' ⟨c, rfl, rfl⟩
    refine ⟨_, rfl, c, rfl, _, _, rfl, rfl, mul_ok0, _, _, rfl, rfl, (by decide +kernel), _, _, rfl, urnText_int, urnText_len, _, _, rfl, rfl, (by show (0 : Int) < 10 ^ 300; decide +kernel), _, rfl, c, rfl, 10, 18, rfl, rfl, ⟨by decide, by decide, by decide⟩, _, _, rfl, rfl, .inr ⟨_, rfl, _, _, rfl, rfl, .inr ?_, ?_⟩⟩
    · exact ind_bd _
    obtain ⟨o1, o2⟩ := own_lt c (decide (10 ^ (18 : Int).toNat ≤ if c < 0 then -c else c))
    refine ⟨_, rfl, _, rfl, c, _, rfl, rfl, (by show (0 : Int) < 2305843009213693951; decide), _, rfl, 7919, k, rfl, rfl, .inl ⟨by decide, by decide⟩, _, rfl, _, k, rfl, rfl, .inl ⟨by omega, by omega⟩, _, _, rfl, rfl, _, _, rfl, rfl, _, _, rfl, rfl, .inr ⟨by decide, by decide⟩, _, _, rfl, rfl, (by show (0 : Int) < 2305843009213693951; decide), (by show 2 ≤ sizeLine; decide), fun p np => ?_⟩
    exact q _ p (same_new np) np ⟨_, _, upd_same, o1, o2, Int.emod_nonneg _ (by decide), Int.emod_lt_of_pos _ (by decide)⟩
theorem ok_take {f : Addr} {fd : FuncData} {k : Nat} (F : Fun K "_law_take" "_law_take" sTake f fd) :
    FnOk P w K mg base CX0 (k + 1) f fd ["_law_urn_here", "_law_below"] spTake := by
  refine F.ok scTake (fun vs H Q E h => ?_) (fun cdv A outer s H vs Q E hr h => ?_)
  · obtain ⟨p, n, rfl, _⟩ := h
    rfl
  obtain ⟨p, n, rfl, ⟨u, v, hp, u0, u1, v0, v1⟩, n0, n1, q⟩ := h
  refine ⟨_, pss_cons (ps_if (pt_cmpR op_gt (pe_ix ix_list (pv 0) pe_int (fun _ _ => rfl)) pe_int (nomark _))
      (pss_cons (ps_set (i := 2) scTake.nd rfl (.inl rfl) (pe_op op_mod (pe_ix ix_list (pv 0) pe_int (fun _ _ => rfl)) (pv 1)))
      (pss_cons (ps_asg (pe_op op_fdivW (pe_ix ix_list (pv 0) pe_int (fun _ _ => rfl)) (pv 1)) (pg_sub (pv 0) pe_int set_list))
      (pss_one (ps_ret (pv 2))))) pss_nil)
    (pss_cons (ps_asg (pe_op op_mod (pe_op op_add (pe_op op_mul (pe_ix ix_list (pv 0) pe_int (fun _ _ => rfl)) pe_int) pe_int) pe_int) (pg_sub (pv 0) pe_int set_list))
    (pss_cons (ps_set (i := 3) scTake.nd rfl (.inl rfl) (pe_op op_mod (pe_op op_mul (pe_op op_fdiv (pe_ix ix_list (pv 0) pe_int (fun _ _ => rfl)) pe_int) (pe_op op_add (pe_op op_mod (pe_ix ix_list (pv 0) pe_int (fun _ _ => rfl)) pe_int) pe_int)) pe_int))
    (Evl.pss_cut (ps_if (pt_cmpR op_gt (pv 1) (pe_op op_pow pe_int pe_int) (nomark _))
      (pss_cons (ps_asg (pe_op op_mod (pe_op op_add (pe_op op_mul (pe_ix ix_list (pv 0) pe_int (fun _ _ => rfl)) pe_int) pe_int) pe_int) (pg_sub (pv 0) pe_int set_list))
      (pss_one (ps_set (i := 3) scTake.nd rfl (.inl rfl) (pe_op op_add (pe_op op_mul (pv 3) pe_int) (pe_ix ix_list (pv 0) pe_int (fun _ _ => rfl)))))) pss_nil)
    (pss_one (ps_ret (pe_op op_mod (pe_op op_fdiv (pv 3) pe_int) (pv 1))))))), ?_⟩
  refine ⟨_, rfl, p, _, 0, .int u, rfl, rfl, SqL.of hp, rfl, _, _, rfl, rfl, _, rfl, ite2 (fun c => ?_) (fun c => ?_)⟩
  · have c' : 0 < u := of_decide_eq_true c
    refine ⟨_, rfl, p, _, 0, .int u, rfl, rfl, SqL.of hp, rfl, _, rfl, u, n, rfl, rfl, n0, ?_⟩
    refine ⟨_, rfl, p, _, 0, .int u, rfl, rfl, SqL.of hp, rfl, _, rfl, u, n, rfl, rfl, wide_div (b := 1000) n0 n1 (by decide) (by decide), _, rfl, p, _, 0, 0, rfl, rfl, hp, rfl, _, rfl, ?_⟩
    refine q _ _ (Int.emod_nonneg _ (by omega)) (Int.emod_lt_of_pos _ n0) ⟨_, v, upd_same, ?_, ?_, v0, v1⟩ But.upd
    · exact Int.ediv_nonneg (by omega) (by omega)
    · have h1 : 0 ≤ u / n := Int.ediv_nonneg (by omega) (by omega)
      have h2 : u / n ≤ u := Int.ediv_le_self _ (by omega)
      omega
  · refine ⟨_, rfl, p, _, 1, .int v, rfl, rfl, SqL.of hp, rfl, v, _, rfl, rfl, .inl ⟨by omega, by omega⟩, _, _, rfl, rfl, _, _, rfl, rfl, (by show (0 : Int) < 2305843009213693951; decide), _, rfl, p, _, 1, 1, rfl, rfl, hp, rfl, ?_⟩
    have w0 := nx0 v
    have w1 := nx1 v
    have hx : (upd H p (.lst [.int u, .int (nx v)])) p = some (.lst [.int u, .int (nx v)]) := upd_same
    refine ⟨_, rfl, p, _, 1, .int (nx v), rfl, rfl, SqL.of hx, rfl, nx v, _, rfl, rfl, ⟨by decide, by decide⟩, _, rfl, p, _, 1, .int (nx v), rfl, rfl, SqL.of hx, rfl, nx v, _, rfl, rfl, (by show (0 : Int) < 65537; decide), _, _, rfl, rfl, _, _, rfl, rfl, .inr ⟨by omega, by omega⟩, _, _, rfl, rfl, (by show (0 : Int) < 2305843009213693921; decide), ?_⟩
    refine ⟨fun σ H' => ∃ m y : Int, σ = [some (.ref p), some (.int n), none, some (.int m)] ∧ H' = upd H p (.lst [.int u, .int y]) ∧ 0 ≤ y ∧ y < 2305843009213693951, ?_, ?_⟩
    · refine ⟨_, rfl, 10, 9, rfl, rfl, ⟨by decide, by decide, by decide⟩, _, _, rfl, rfl, _, rfl, ite2 (fun c => ?_) (fun c => ?_)⟩
      · refine ⟨_, rfl, p, _, 1, .int (nx v), rfl, rfl, SqL.of hx, rfl, nx v, _, rfl, rfl, .inl ⟨by omega, by omega⟩, _, _, rfl, rfl, _, _, rfl, rfl, (by show (0 : Int) < 2305843009213693951; decide), _, rfl, p, _, 1, 1, rfl, rfl, hx, rfl, ?_⟩
        have hy : (upd (upd H p (.lst [.int u, .int (nx v)])) p (.lst [.int u, .int (ny (nx v))])) p = some (.lst [.int u, .int (ny (nx v))]) := upd_same
        refine ⟨_, rfl, _, _, rfl, rfl, .inr ⟨by decide, by decide⟩, _, rfl, p, _, 1, .int (ny (nx v)), rfl, rfl, SqL.of hy, rfl, _, _, rfl, rfl, ?_⟩
        exact ⟨_, ny (nx v), rfl, upd_upd, ny0 _, ny1 _⟩
      · exact ⟨_, nx v, rfl, rfl, w0, w1⟩
    · rintro σ' H' ⟨m, y, rfl, rfl, y0, y1⟩
      refine ⟨_, rfl, m, 97, rfl, rfl, ⟨by decide, by decide⟩, _, rfl, _, n, rfl, rfl, n0, ?_⟩
      exact q _ _ (Int.emod_nonneg _ (by omega)) (Int.emod_lt_of_pos _ n0) ⟨u, y, upd_same, u0, u1, y0, y1⟩ But.upd
theorem ok_of {f fT : Addr} {fd fdT : FuncData} {k : Nat} (F : Fun K "_law_of" "_law_of" sOf f fd) (FT : Fun K "_law_take" "_law_take" sTake fT fdT) (bT : Binds K fdT ["_law_urn_here", "_law_below"] []) (gT : mg "_law_take" = some (.ref fT)) (ml : mg "len" = none) :
    FnOk P w K mg base CX0 (k + 2) f fd ["_law_urn_here", "_law_items"] (spOf K) := by
  have GT : FnOk P w K mg base CX0 (k + 1) fT fdT ["_law_urn_here", "_law_below"] spTake := ok_take FT
  refine F.ok scOf (fun vs H Q E h => ?_) (fun cdv A outer s H vs Q E hr h => ?_)
  · obtain ⟨p, r, xs, rfl, _⟩ := h
    rfl
  obtain ⟨p, r, xs, rfl, hU, nr, hr2, hx, hl, q⟩ := h
  refine ⟨_, pss_one (ps_ret (pe_ix ix_list (pv 1) (pe_call GT hr (by rfl) gT FT.kp bT .nil pass0 (pa_cons (pv 0) (pa_cons (pe_callB call_len_seq (by rfl) ml PySem.boot_len (pa_cons (pv 1) pa_nil)) pa_nil))) (fun _ _ => rfl))), ?_⟩
  have l0 : 0 < xs.length := List.length_pos_iff.mpr hx
  have l1 : (1000 : Nat) < wide := by decide +kernel
  refine ⟨_, rfl, _, rfl, _, rfl, r, xs, rfl, .inl hr2, p, _, rfl, hU, by omega, by omega, fun d H' d0 d1 hU' hb => ?_⟩
  obtain ⟨x, mx, hx2⟩ := at_any (xs := xs) d0 d1
  exact ⟨r, xs, d, x, rfl, rfl, hb.seq nr hr2, hx2, q x H' mx hU' hb⟩
end
section
variable {P : Program} {w : World} {K : PySem.W.Frag} {mg : Str → Option Value} {base : Heap}
theorem has_urn (M : Bl mg) (F : At K mg "_law_urn" sUrn ["_law_script", "_law_k"]) : Has P w K mg base 1 "_law_urn" ["_law_script", "_law_k"] (spUrn K) := by
  obtain ⟨f, fd, F, b, g⟩ := F
  exact ⟨f, fd, .of (ok_urn F M.len_ M.abs_ M.int_), F.kp, b, g, fun_lk F⟩
theorem has_take (F : At K mg "_law_take" sTake ["_law_urn_here", "_law_below"]) : Has P w K mg base 1 "_law_take" ["_law_urn_here", "_law_below"] spTake := by
  obtain ⟨f, fd, F, b, g⟩ := F
  exact ⟨f, fd, .of (ok_take F), F.kp, b, g, fun_lk F⟩
theorem has_of (M : Bl mg) (F : At K mg "_law_of" sOf ["_law_urn_here", "_law_items"]) (FT : At K mg "_law_take" sTake ["_law_urn_here", "_law_below"]) : Has P w K mg base 2 "_law_of" ["_law_urn_here", "_law_items"] (spOf K) := by
  obtain ⟨f, fd, F, b, g⟩ := F
  obtain ⟨f2, fd2, F2, b2, g2⟩ := FT
  exact ⟨f, fd, .of (ok_of F F2 b2 g2 M.len_), F.kp, b, g, fun_lk F⟩
theorem ok_prime (F : At K mg "_law_prime" sPrime ["_law_urn_here"]) {k : Nat} (h : Has P w K mg base k "_law_of" ["_law_urn_here", "_law_items"] (spOf K)) : Has P w K mg base (k + 1) "_law_prime" ["_law_urn_here"] spPrimeU := by
  obtain ⟨_, _, cOf⟩ := h
  refine Has.by F scPrime (fun vs H Q E h => ?_) (fun f cdv A out s H vs Q E hg hr h => ?_)
  · obtain ⟨p, rfl, _⟩ := h
    rfl
  obtain ⟨p, rfl, hU, q⟩ := h
  refine ⟨_, (pss_one (ps_ret (pe_cal cOf hg hr (by rfl) (pa_cons (pv 0) (pa_cons (pe_lst (pa_cons pe_int (pa_cons pe_int (pa_cons pe_int (pa_cons pe_int (pa_cons pe_int (pa_cons pe_int (pa_cons pe_int (pa_cons pe_int (pa_cons pe_int (pa_cons pe_int (pa_cons pe_int (pa_cons pe_int (pa_cons pe_int pa_nil)))))))))))))) pa_nil))))), ?_⟩
  refine ⟨_, rfl, (by show 13 ≤ sizeLine; decide), fun l nl => ?_⟩
  refine ⟨p, l, _, rfl, hU.same (same_new nl), hU.ne nl, SqL.of upd_same, (by intro z; cases z), (by show 13 ≤ 1000; decide), fun x H' hx hU' hb => ?_⟩
  have hx2 : x ∈ prs.map V.int := hx
  obtain ⟨z, hz, rfl⟩ := List.mem_map.mp hx2
  exact q z H' hz hU' (But.trans (But.new nl) hb)
theorem ok_words (F : At K mg "_law_words" sWords []) : Has P w K mg base 1 "_law_words" [] spWords := by
  refine Has.by F scWords (fun vs H Q E h => ?_) (fun f cdv A out s H vs Q E hg hr h => ?_)
  · obtain ⟨rfl, _⟩ := h
    rfl
  obtain ⟨rfl, q⟩ := h
  exact ⟨_, (pss_one (ps_ret (pe_lst (pa_cons pe_str (pa_cons pe_str (pa_cons pe_str (pa_cons pe_str (pa_cons pe_str (pa_cons pe_str (pa_cons pe_str (pa_cons pe_str (pa_cons pe_str pa_nil)))))))))))), (by show 9 ≤ sizeLine; decide), fun l nl => q l nl⟩
theorem tup_op {H : Hp} {t : Addr} {u : Str} {as : List Int} (n : H t = none) : TrAt K (upd H t (.tup (.str u :: as.map V.int))) (.op u as) (.ref t) := by
  rw [TrAt]
  exact ⟨t, rfl, SqT.of upd_same⟩
theorem ok_item (M : Bl mg) (F : At K mg "_law_item" sItem ["_law_urn_here", "_law_p", "_law_n", "_law_words_here"]) {k : Nat} (h : Has P w K mg base k "_law_of" ["_law_urn_here", "_law_items"] (spOf K)) (h2 : Has P w K mg base k "_law_take" ["_law_urn_here", "_law_below"] spTake) :
    Has P w K mg base (k + 1) "_law_item" ["_law_urn_here", "_law_p", "_law_n", "_law_words_here"] (spItem K) := by
  obtain ⟨_, _, cOf⟩ := h
  obtain ⟨_, _, cTake⟩ := h2
  refine Has.by F scItem (fun vs H Q E h => ?_) (fun f cdv A out s H vs Q E hg hr h => ?_)
  · obtain ⟨_, _, _, _, _, rfl, _⟩ := h
    rfl
  obtain ⟨u, ws, p, n, wl, rfl, hU, p0, p1, n0, n1, nw, sq, wne, wle, w7, q⟩ := h
  refine ⟨_, (pss_cons (ps_set (i := 4) scItem.nd rfl (.inl rfl) (pe_cal cOf hg hr (by rfl) (pa_cons (pv 0) (pa_cons (pv 3) pa_nil))))
  (pss_cons (ps_par (i := 5) (j := 6) (by rfl) scItem.nd rfl rfl (by decide) rfl rfl (pa_cons (pe_cal cTake hg hr (by rfl) (pa_cons (pv 0) (pa_cons (pv 2) pa_nil))) (pa_cons (pe_cal cOf hg hr (by rfl) (pa_cons (pv 0) (pa_cons (pe_lst (pa_cons pe_int (pa_cons (pe_op op_mod pe_int (pv 1)) (pa_cons (pe_op op_sub (pv 1) pe_int) (pa_cons (pe_cal cTake hg hr (by rfl) (pa_cons (pv 0) (pa_cons (pv 1) pa_nil))) pa_nil))))) pa_nil))) pa_nil)) (by rfl))
  (pss_cons (ps_if (pt_cmpR op_in_seq (pv 4) (pe_tup (pa_cons pe_str (pa_cons pe_str pa_nil))) (by rfl))
    (pss_one (ps_ret (pe_tup (pa_cons (pv 4) (pa_cons (pv 5) (pa_cons (pv 6) pa_nil))))))
    pss_nil)
  (pss_cons (ps_if (pt_cmpR op_in_seq (pv 4) (pe_tup (pa_cons pe_str (pa_cons pe_str pa_nil))) (by rfl))
    (pss_one (ps_ret (pe_tup (pa_cons (pv 4) (pa_cons (pv 5) pa_nil)))))
    pss_nil)
  (pss_cons (ps_if (pt_cmpR op_eq (pv 2) pe_int (nomark _))
    (pss_one (ps_ret (pe_tup (pa_cons pe_str (pa_cons pe_int (pa_cons (pv 6) pa_nil))))))
    pss_nil)
  (pss_cons (ps_set (i := 7) scItem.nd rfl (.inl rfl) (pe_op op_mod (pe_op op_add (pe_op op_add (pv 5) pe_int) (pe_cal cTake hg hr (by rfl) (pa_cons (pv 0) (pa_cons (pe_op op_sub (pv 2) pe_int) pa_nil)))) (pv 2)))
  (pss_cons (ps_if (pt_cmpR op_eq (pv 4) pe_str (nomark _))
    (pss_one (ps_ret (pe_tup (pa_cons (pv 4) (pa_cons (pv 5) (pa_cons (pv 7) (pa_cons (pe_ifExp (pt_cmpR op_gt (pv 1) pe_int (nomark _)) (pe_op op_add pe_int (pe_op op_mod (pv 6) (pe_op op_sub (pv 1) pe_int))) pe_int) pa_nil)))))))
    pss_nil)
  (pss_one (ps_ret (pe_tup (pa_cons (pv 4) (pa_cons (pv 5) (pa_cons (pv 7) pa_nil))))))))))))), ?_⟩
  -- the word
  refine ⟨_, rfl, _, rfl, u, ws, _, rfl, hU, nw, sq, (by simpa using wne), (by rw [List.length_map]; exact wle), fun x H1 hx u1 b1 => ?_⟩
  obtain ⟨z, hz, rfl⟩ := List.mem_map.mp hx
  -- x and c
  refine ⟨_, rfl, _, rfl, u, n, rfl, u1, by omega, wide_big (by omega) (by omega), fun x H2 x0 x1 u2 b2 => ?_⟩
  refine ⟨_, rfl, _, rfl, 1, p, rfl, rfl, (by show (0 : Int) < p; omega), _, rfl, p, 1, rfl, rfl, _, rfl, _, rfl, u, p, rfl, u2, by omega, wide_big (by omega) (by omega), fun c3 H3 c30 c31 u3 b3 => ?_⟩
  refine ⟨(by show 4 ≤ sizeLine; decide), fun l nl => ?_⟩
  refine ⟨u, l, _, rfl, u3.same (same_new nl), u3.ne nl, SqL.of upd_same, (by intro z; cases z), (by show 4 ≤ 1000; decide), fun c H4 hc u4 b4 => ?_⟩
  have bb : But u H H4 := ((b1.trans b2).trans b3).trans ((But.new nl).trans b4)
  obtain ⟨c, rfl, c0, c1⟩ : ∃ c' : Int, c = .int c' ∧ 0 ≤ c' ∧ c' < p := by
    have m0 := Int.emod_nonneg 1 (show p ≠ 0 by omega)
    have m1 := Int.emod_lt_of_pos 1 (show 0 < p by omega)
    simp only [List.mem_cons, List.not_mem_nil, or_false] at hc
    rcases hc with rfl | rfl | rfl | rfl
    · exact ⟨0, rfl, by omega, by omega⟩
    · exact ⟨1 % p, rfl, m0, m1⟩
    · exact ⟨p - 1, rfl, by omega, by omega⟩
    · exact ⟨c3, rfl, c30, c31⟩
  refine ⟨_, _, rfl, ?_⟩
  -- set, scale
  refine ⟨_, rfl, (by show 2 ≤ sizeLine; decide), fun t1 nt1 => ?_⟩
  refine ⟨t1, _, rfl, .inr (SqT.of upd_same), rfl, rfl, _, rfl, ite2 (fun i1 => ?_) (fun i1 => ?_)⟩
  · have e := inV2.mp i1
    refine ⟨_, rfl, _, rfl, _, rfl, (by show 3 ≤ sizeLine; decide), fun t nt => ?_⟩
    exact q z [x, c] _ _ (.inl ⟨e, x, c, rfl, x0, x1, c0, c1⟩) (.inl hz) (tup_op (as := [x, c]) nt) ((u4.same (same_new nt1)).same (same_new nt)) (bb.trans ((But.new nt1).trans (But.new nt)))
  -- read, write
  refine ⟨_, rfl, (by show 2 ≤ sizeLine; decide), fun t2 nt2 => ?_⟩
  have u6 := (u4.same (same_new (o := .tup [.str "set", .str "scale"]) nt1)).same (same_new (o := .tup [.str "read", .str "write"]) nt2)
  have b6 : But u H _ := bb.trans ((But.new (o := .tup [.str "set", .str "scale"]) nt1).trans (But.new (o := .tup [.str "read", .str "write"]) nt2))
  refine ⟨t2, _, rfl, .inr (SqT.of upd_same), rfl, rfl, _, rfl, ite2 (fun i2 => ?_) (fun i2 => ?_)⟩
  · have e := inV2.mp i2
    refine ⟨_, rfl, _, rfl, (by show 2 ≤ sizeLine; decide), fun t nt => ?_⟩
    exact q z [x] _ _ (.inr (.inl ⟨e, x, rfl, x0, x1⟩)) (.inl hz) (tup_op (as := [x]) nt) (u6.same (same_new nt)) (b6.trans (But.new nt))
  have z1 : ¬ (z = "set" ∨ z = "scale") := fun e => i1 (inV2.mpr e)
  have z2 : ¬ (z = "read" ∨ z = "write") := fun e => i2 (inV2.mpr e)
  -- one register
  refine ⟨_, rfl, rfl, _, rfl, ite2 (fun i3 => ?_) (fun i3 => ?_)⟩
  · have e : n = 1 := V.int.inj (of_decide_eq_true i3)
    refine ⟨_, rfl, (by show 3 ≤ sizeLine; decide), fun t nt => ?_⟩
    exact q "set" [0, c] _ _ (.inl ⟨.inl rfl, 0, c, rfl, by omega, by omega, c0, c1⟩) (.inr rfl) (tup_op (as := [0, c]) nt) (u6.same (same_new nt)) (b6.trans (But.new nt))
  have n2 : n ≠ 1 := fun e => i3 (decide_eq_true (congrArg V.int e))
  -- y
  refine ⟨_, rfl, _, _, rfl, rfl, _, rfl, _, rfl, n, 1, rfl, rfl, u, _, rfl, u6, by omega, wide_big (by omega) (by omega), fun d H7 d0 d1 u7 b7 => ?_⟩
  refine ⟨_, _, rfl, rfl, _, rfl, _, n, rfl, rfl, (by show (0 : Int) < n; omega), ?_⟩
  have y0 := Int.emod_nonneg (x + 1 + d) (show n ≠ 0 by omega)
  have y1 := Int.emod_lt_of_pos (x + 1 + d) (show 0 < n by omega)
  have yx : x ≠ (x + 1 + d) % n := fun e => by
    have h := Int.emod_def (x + 1 + d) n
    by_cases g : x + 1 + d < n
    · rw [Int.emod_eq_of_lt (by omega) g] at e
      omega
    · have h2 : (x + 1 + d) % n = x + 1 + d - n := by
        rw [← Int.sub_emod_right]
        exact Int.emod_eq_of_lt (by omega) (by omega)
      omega
  -- add
  refine ⟨_, rfl, rfl, _, rfl, ite2 (fun i4 => ?_) (fun i4 => ?_)⟩
  · have e : z = "add" := V.str.inj (of_decide_eq_true i4)
    refine ⟨_, rfl, _, rfl, _, rfl, _, rfl, p, 2, rfl, rfl, _, rfl, ite2 (fun i5 => ?_) (fun i5 => ?_)⟩
    · have g : 2 < p := of_decide_eq_true i5
      have m0 := Int.emod_nonneg c (show p - 1 ≠ 0 by omega)
      have m1 := Int.emod_lt_of_pos c (show 0 < p - 1 by omega)
      refine ⟨_, rfl, _, rfl, p, 1, rfl, rfl, c, _, rfl, rfl, (by show (0 : Int) < p - 1; omega), 1, _, rfl, rfl, (by show 4 ≤ sizeLine; decide), fun t nt => ?_⟩
      exact q z [x, (x + 1 + d) % n, 1 + c % (p - 1)] _ _ (.inr (.inr (.inr ⟨e, x, _, _, rfl, x0, x1, y0, y1, yx, by omega, by omega⟩))) (.inl hz) (tup_op (as := [x, (x + 1 + d) % n, 1 + c % (p - 1)]) nt) (u7.same (same_new nt)) ((b6.trans b7).trans (But.new nt))
    · refine ⟨(by show 4 ≤ sizeLine; decide), fun t nt => ?_⟩
      exact q z [x, (x + 1 + d) % n, 1] _ _ (.inr (.inr (.inr ⟨e, x, _, _, rfl, x0, x1, y0, y1, yx, by omega, by omega⟩))) (.inl hz) (tup_op (as := [x, (x + 1 + d) % n, 1]) nt) (u7.same (same_new nt)) ((b6.trans b7).trans (But.new nt))
  · have e : z ≠ "add" := fun e => i4 (decide_eq_true (congrArg V.str e))
    have hz7 := w7 z hz
    have e2 : z = "copy" ∨ z = "swap" := by
      simp only [W7, List.mem_cons, List.not_mem_nil, or_false] at hz7
      rcases hz7 with h | h | h | h | h | h | h
      · exact absurd (.inl h) z1
      · exact .inl h
      · exact absurd h e
      · exact absurd (.inr h) z1
      · exact .inr h
      · exact absurd (.inl h) z2
      · exact absurd (.inr h) z2
    refine ⟨_, rfl, _, rfl, _, rfl, (by show 3 ≤ sizeLine; decide), fun t nt => ?_⟩
    exact q z [x, (x + 1 + d) % n] _ _ (.inr (.inr (.inl ⟨e2, x, _, rfl, x0, x1, y0, y1, yx⟩))) (.inl hz) (tup_op (as := [x, (x + 1 + d) % n]) nt) (u7.same (same_new nt)) ((b6.trans b7).trans (But.new nt))
end
section
variable {P : Program} {w : World} {K : PySem.W.Frag} {mg : Str → Option Value} {base : Heap}
theorem ok_body1 (M : Bl mg) (F : At K mg "_law_body" sBody ["_law_urn_here", "_law_p", "_law_n", "_law_words_here", "_law_length", "_law_deep", "_law_rounds"]) {d k : Nat}
    (h : Has P w K mg base k "_law_of" ["_law_urn_here", "_law_items"] (spOf K)) (h2 : Has P w K mg base k "_law_take" ["_law_urn_here", "_law_below"] spTake)
    (h3 : Has P w K mg base k "_law_item" ["_law_urn_here", "_law_p", "_law_n", "_law_words_here"] (spItem K)) (h4 : Has P w K mg base k "_law_body" ["_law_urn_here", "_law_p", "_law_n", "_law_words_here", "_law_length", "_law_deep", "_law_rounds"] (spBody K d)) :
    Has P w K mg base (k + 1) "_law_body" ["_law_urn_here", "_law_p", "_law_n", "_law_words_here", "_law_length", "_law_deep", "_law_rounds"] (spBody K (d + 1)) := by
  obtain ⟨_, _, cOf⟩ := h
  obtain ⟨_, _, cTake⟩ := h2
  obtain ⟨_, _, cItem⟩ := h3
  obtain ⟨_, _, cBody⟩ := h4
  refine Has.by F scBody (fun vs H Q E h => ?_) (fun f cdv A out s H vs Q E hg hr h => ?_)
  · obtain ⟨_, _, _, _, _, _, _, _, _, rfl, _⟩ := h
    rfl
  obtain ⟨u, ws, rs, p, n, wl, rl, l, e, rfl, hU, p0, p1, n0, n1, nw, sqw, wne, wle, w7, nr, sqr, rne, rle, l1, ed, q⟩ := h
  refine ⟨_, (pss_cons (ps_set (i := 7) scBody.nd rfl (.inl rfl) (pe_lst pa_nil))
  (pss_cons (ps_for PassesOwn.never rfl (pi_range1 (by rfl) M.range_ (pa_cons (pe_cal cTake hg hr (by rfl) (pa_cons (pv 0) (pa_cons (pe_op op_add (pv 4) pe_int) pa_nil))) pa_nil)) (pg_name (i := 8) scBody.nd rfl (.inl rfl))
    (pss_one (ps_if (PW.pt (pw_and (pt_cmpR op_gt (pv 5) pe_int (nomark _)) (pw_and1 (pt_cmpR op_eq (pe_cal cTake hg hr (by rfl) (pa_cons (pv 0) (pa_cons pe_int pa_nil))) pe_int (nomark _)))))
    (pss_cons (ps_set (i := 9) scBody.nd rfl (.inl rfl) (pe_cal cBody hg hr (by rfl) (pa_cons (pv 0) (pa_cons (pv 1) (pa_cons (pv 2) (pa_cons (pv 3) (pa_cons (pe_op op_fdiv (pv 4) pe_int) (pa_cons (pe_op op_sub (pv 5) pe_int) (pa_cons (pv 6) pa_nil)))))))))
  (pss_one (ps_expr (pe_bm PySem.F.plainAttrs_list PySem.F.slot_list_append PySem.F.type_list_append mt_append (pv 7) (pa_cons (pe_tup (pa_cons pe_str (pa_cons (pe_cal cOf hg hr (by rfl) (pa_cons (pv 0) (pa_cons (pv 6) pa_nil))) (pa_cons (pv 9) pa_nil)))) pa_nil)))))
    (pss_one (ps_expr (pe_bm PySem.F.plainAttrs_list PySem.F.slot_list_append PySem.F.type_list_append mt_append (pv 7) (pa_cons (pe_cal cItem hg hr (by rfl) (pa_cons (pv 0) (pa_cons (pv 1) (pa_cons (pv 2) (pa_cons (pv 3) pa_nil))))) pa_nil)))))))
  (pss_one (ps_ret (pe_callTy call_tuple_of (by rfl) M.tuple_ (by decide +kernel) (pa_cons (pv 7) pa_nil)))))), ?_⟩
  refine ⟨Nat.zero_le _, fun fo nfo => ?_⟩
  have nfu : fo ≠ u := hU.ne nfo
  refine ⟨_, rfl, _, rfl, (l : Int), 1, rfl, rfl, u, _, rfl, hU.same (same_new nfo), by omega, wide_big (by omega) (by omega), fun m H1 m0 m1 u1 b1 => ?_⟩
  refine ⟨m, rfl, by omega, by omega, ?_⟩
  refine for_range (lo := 0) (n := m.toNat) (fun i σ H' => ∃ y8 y9 bs us, σ = [some (.ref u), some (.int p), some (.int n), some (.ref ws), some (.int (l : Int)), some (.int (e : Int)), some (.ref rs), some (.ref fo), y8, y9] ∧ Urn H' u ∧ But u H H' ∧ H' fo = some (.lst us) ∧
    TrsAt K H' bs us ∧ bs.length = i ∧ mades (fun w as => GoodOp p n w as ∧ (w ∈ wl ∨ w = "set")) (fun k => k ∈ rl) bs l e) ⟨none, none, [], [], rfl, u1, (But.new nfo).trans b1, b1 _ _ nfu upd_same, TrsAt.nil, rfl, mades_nil⟩ ?_ ?_
  · rintro i σ H2 hi ⟨y8, y9, bs, us, rfl, u2, b2, h2, tr2, hlen, hmad⟩
    refine ⟨_, rfl, (e : Int), 0, rfl, rfl, _, rfl, ite2 (fun c => ?_) (fun c => ?_)⟩
    · have c' : (0 : Int) < (e : Int) := of_decide_eq_true c
      refine ⟨_, rfl, u, 4, rfl, u2, by decide, wide_big (by decide) (by decide), fun z H3 z0 z1 u3 b3 => ?_⟩
      have h3 := b3 _ _ nfu h2
      have tr3 := TrsAt.kt (u2.kt b3) _ _ tr2
      have b23 := b2.trans b3
      refine ⟨rfl, _, rfl, ite2 (fun c2 => ?_) (fun c2 => ?_)⟩
      · have e1 : ((l : Int) / 2) = ((l / 2 : Nat) : Int) := by omega
        have e2 : ((e : Int) - 1) = ((e - 1 : Nat) : Int) := by omega
        refine ⟨_, rfl, _, rfl, _, rfl, _, rfl, _, rfl, (l : Int), 2, rfl, rfl, ⟨by decide, by decide⟩, _, rfl, (e : Int), 1, rfl, rfl, _, rfl, u, ws, rs, p, n, wl, rl, l / 2, e - 1, ?_, u3, p0, p1, n0, n1, nw, b23.seq nw sqw, wne, wle, w7, nr, b23.seq nr sqr, rne, rle, by omega, by omega, fun b' v' H4 len4 mad4 body4 u4 b4 => ?_⟩
        · show [V.ref u, V.int p, V.int n, V.ref ws, V.int ((l : Int) / 2), V.int ((e : Int) - 1), V.ref rs] = _
          rw [e1, e2]
        have h4 := b4 _ _ nfu h3
        have b24 := b23.trans b4
        refine ⟨_, rfl, .inl ⟨rfl, _, SqL.of h4⟩, _, rfl, _, rfl, u, rs, _, rfl, u4, nr, b24.seq nr sqr, (by simpa using rne), (by rw [List.length_map]; exact rle), fun x H5 hx u5 b5 => ?_⟩
        obtain ⟨k', hk, rfl⟩ := List.mem_map.mp hx
        obtain ⟨c4, vs4, rfl, sq4, tr4⟩ := body4
        refine ⟨_, rfl, (by show 3 ≤ sizeLine; decide), fun t nt => ?_⟩
        have h5 := b5 _ _ nfu h4
        have h6 : (upd H5 t (.tup [.str "loop", .int k', .ref c4])) fo = some (.lst us) := same_new nt _ _ h5
        refine ⟨fo, _, _, rfl, rfl, h6, ?_, ?_⟩
        · rw [tr2.length, hlen]
          exact small1000 (by omega)
        · have kt6 : Kt (upd H5 t (.tup [.str "loop", .int k', .ref c4])) (upd (upd H5 t (.tup [.str "loop", .int k', .ref c4])) fo (.lst (us ++ [.ref t]))) := Kt.but But.upd h6
          have kt5 : Kt H5 (upd (upd H5 t (.tup [.str "loop", .int k', .ref c4])) fo (.lst (us ++ [.ref t]))) := (Kt.same (same_new nt)).trans kt6
          have kt4 := (u4.kt b5).trans kt5
          have kt3 := (u3.kt b4).trans kt4
          have ntf : t ≠ fo := (ne_of_none h5 nt).symm
          refine ⟨_, _, bs ++ [.loop k' b'], us ++ [.ref t], rfl, (u5.same (same_new nt)).but (q := fo) But.upd nfu.symm, fun x o hx ho => ?_, upd_same, (TrsAt.kt kt3 _ _ tr3).append (TrsAt.one ?_), by rw [List.length_append, hlen]; rfl, mades_append hmad (mades_one ?_)⟩
          · rw [upd_ne (ne_of_none ho nfo)]
            exact same_new nt _ _ (b5 _ _ hx (b24 _ _ hx ho))
          · rw [TrAt]
            exact ⟨t, c4, vs4, rfl, kt6.sq (SqT.of upd_same), kt4.sq sq4, TrsAt.kt kt4 _ _ tr4⟩
          · obtain ⟨e', rfl⟩ : ∃ e', e = e' + 1 := ⟨e - 1, by omega⟩
            rw [Tr.made]
            exact ⟨hk, len4, mad4⟩
      · refine ⟨_, rfl, .inl ⟨rfl, _, SqL.of h3⟩, _, rfl, _, rfl, _, rfl, _, rfl, u, ws, p, n, wl, rfl, u3, p0, p1, n0, n1, nw, b23.seq nw sqw, wne, wle, w7, fun w' as v H9 good inl tr u9 b9 => ?_⟩
        refine ⟨fo, _, _, rfl, rfl, b9 _ _ nfu h3, ?_, ?_⟩
        · rw [tr3.length, hlen]
          exact small1000 (by omega)
        · have kt9 : Kt H9 (upd H9 fo (.lst (us ++ [v]))) := Kt.but But.upd (b9 _ _ nfu h3)
          refine ⟨_, _, bs ++ [.op w' as], us ++ [v], rfl, u9.but (q := fo) But.upd nfu.symm, fun x o hx ho => ?_, upd_same, (TrsAt.kt ((u3.kt b9).trans kt9) _ _ tr3).append (TrsAt.one (TrAt.kt kt9 _ _ tr)), by rw [List.length_append, hlen]; rfl, mades_append hmad (mades_one (by rw [Tr.made]; exact ⟨good, inl⟩))⟩
          rw [upd_ne (ne_of_none ho nfo)]
          exact b9 _ _ hx (b23 _ _ hx ho)
    · refine ⟨_, rfl, .inl ⟨rfl, _, SqL.of h2⟩, _, rfl, _, rfl, _, rfl, _, rfl, u, ws, p, n, wl, rfl, u2, p0, p1, n0, n1, nw, b2.seq nw sqw, wne, wle, w7, fun w' as v H9 good inl tr u9 b9 => ?_⟩
      refine ⟨fo, _, _, rfl, rfl, b9 _ _ nfu h2, ?_, ?_⟩
      · rw [tr2.length, hlen]
        exact small1000 (by omega)
      · have kt9 : Kt H9 (upd H9 fo (.lst (us ++ [v]))) := Kt.but But.upd (b9 _ _ nfu h2)
        refine ⟨_, _, bs ++ [.op w' as], us ++ [v], rfl, u9.but (q := fo) But.upd nfu.symm, fun x o hx ho => ?_, upd_same, (TrsAt.kt ((u2.kt b9).trans kt9) _ _ tr2).append (TrsAt.one (TrAt.kt kt9 _ _ tr)), by rw [List.length_append, hlen]; rfl, mades_append hmad (mades_one (by rw [Tr.made]; exact ⟨good, inl⟩))⟩
        rw [upd_ne (ne_of_none ho nfo)]
        exact b9 _ _ hx (b2 _ _ hx ho)
  · rintro σ H2 ⟨y8, y9, bs, us, rfl, u2, b2, h2, tr2, hlen, hmad⟩
    refine ⟨_, rfl, fo, us, rfl, .inl ⟨SqL.of h2, fun t nt => ?_⟩⟩
    exact q bs (.ref t) _ (by omega) hmad ⟨t, us, rfl, SqT.of upd_same, TrsAt.kt (Kt.same (same_new nt)) _ _ tr2⟩ (u2.same (same_new nt)) (b2.trans (But.new nt))
theorem ok_body (M : Bl mg) (F : At K mg "_law_body" sBody ["_law_urn_here", "_law_p", "_law_n", "_law_words_here", "_law_length", "_law_deep", "_law_rounds"]) {k : Nat}
    (h : Has P w K mg base k "_law_of" ["_law_urn_here", "_law_items"] (spOf K)) (h2 : Has P w K mg base k "_law_take" ["_law_urn_here", "_law_below"] spTake)
    (h3 : Has P w K mg base k "_law_item" ["_law_urn_here", "_law_p", "_law_n", "_law_words_here"] (spItem K)) :
    ∀ d, Has P w K mg base (k + d) "_law_body" ["_law_urn_here", "_law_p", "_law_n", "_law_words_here", "_law_length", "_law_deep", "_law_rounds"] (spBody K d)
  | 0 => Has.none F fun vs H Q E ⟨_, _, _, _, _, _, _, _, _, _, _, _, _, _, _, _, _, _, _, _, _, _, _, _, _, h, _⟩ => absurd h (Nat.not_lt_zero _)
  | d + 1 => ok_body1 M F (h.up (Nat.le_add_right _ _)) (h2.up (Nat.le_add_right _ _)) (h3.up (Nat.le_add_right _ _)) (ok_body M F h h2 h3 d)
/-! ### what is executed -/
theorem trs_flat {H : Hp} {b : List Tr} {vs : List V} (h : TrsAt K H b vs) : ∀ n : Nat, TrsAt K H (List.replicate n b).flatten (List.replicate n vs).flatten
  | 0 => TrsAt.nil
  | n + 1 => by
    rw [List.replicate_succ, List.flatten_cons, List.replicate_succ, List.flatten_cons]
    exact h.append (trs_flat h n)
theorem rep_succ {α : Type} (n : Nat) (xs : List α) : (List.replicate (n + 1) xs).flatten = (List.replicate n xs).flatten ++ xs := by
  rw [List.replicate_succ', List.flatten_append, List.flatten_cons, List.flatten_nil, List.append_nil]
theorem flat_take {b : List Tr} {i : Nat} {t : Tr} (e : b[i]? = some t) : exs (b.take (i + 1)) = exs (b.take i) ++ t.ex := by
  rw [exs_map, exs_map, map_next e, List.flatten_append, List.flatten_cons, List.flatten_nil, List.append_nil]
theorem ex_mem {b : List Tr} {i : Nat} {t : Tr} (e : b[i]? = some t) : ∀ x ∈ t.ex, x ∈ exs b := by
  intro x m
  rw [exs_map]
  exact List.mem_flatten.mpr ⟨t.ex, List.mem_map.mpr ⟨t, List.mem_of_getElem? e, rfl⟩, m⟩
theorem ex_le {b : List Tr} {i : Nat} {t : Tr} (e : b[i]? = some t) : (exs (b.take i)).length + t.ex.length ≤ (exs b).length := by
  have h : exs b = exs (b.take (i + 1)) ++ exs (b.drop (i + 1)) := by
    rw [exs_map, exs_map, exs_map, ← List.flatten_append, ← List.map_append, List.take_append_drop]
  rw [h, flat_take e, List.length_append, List.length_append]
  omega
theorem ok_exec1 (M : Bl mg) (F : At K mg "_law_executed" sExecuted ["_law_program"]) {d k : Nat} (h : Has P w K mg base k "_law_executed" ["_law_program"] (spExec K d)) : Has P w K mg base (k + 1) "_law_executed" ["_law_program"] (spExec K (d + 1)) := by
  obtain ⟨_, _, cExecuted⟩ := h
  refine Has.by F scExecuted (fun vs H Q E h => ?_) (fun f cdv A out s H vs Q E hg hr h => ?_)
  · obtain ⟨_, _, rfl, _⟩ := h
    rfl
  obtain ⟨v, b, rfl, ⟨c, us, rfl, sq, r⟩, ok, fin, big, q⟩ := h
  refine ⟨_, (pss_cons (ps_set (i := 1) scExecuted.nd rfl (.inl rfl) (pe_lst pa_nil))
  (pss_cons (ps_for PassesOwn.never rfl (pi_tup (pv 0)) (pg_name (i := 2) scExecuted.nd rfl (.inl rfl))
    (pss_one (ps_if (pt_cmpR op_eq (pe_ix ix_tup (pv 2) pe_int (fun _ _ => rfl)) pe_str (nomark _))
    (pss_cons (ps_set (i := 3) scExecuted.nd rfl (.inl rfl) (pe_cal cExecuted hg hr (by rfl) (pa_cons (pe_ix ix_tup (pv 2) pe_int (fun _ _ => rfl)) pa_nil)))
  (pss_one (ps_for PassesOwn.never rfl (pi_range1 (by rfl) M.range_ (pa_cons (pe_op op_mul (pe_ix ix_tup (pv 2) pe_int (fun _ _ => rfl)) (pe_callTy call_int1 (by rfl) M.int_ (by decide +kernel) (pa_cons (pe_cmpR (op_neD hr.units) (pv 3) (pe_lst pa_nil) (nomark _)) pa_nil))) pa_nil)) (pg_name (i := 4) scExecuted.nd rfl (.inl rfl))
    (pss_one (ps_expr (pe_bm PySem.F.plainAttrs_list PySem.F.slot_list_extend PySem.F.type_list_extend mt_extend (pv 1) (pa_cons (pv 3) pa_nil)))))))
    (pss_one (ps_expr (pe_bm PySem.F.plainAttrs_list PySem.F.slot_list_append PySem.F.type_list_append mt_append (pv 1) (pa_cons (pv 2) pa_nil)))))))
  (pss_one (ps_ret (pv 1))))), ?_⟩
  refine ⟨Nat.zero_le _, fun fo nfo => ?_⟩
  refine ⟨_, rfl, c, rfl, ⟨_, (Kt.same (same_new nfo)).sq sq⟩, ?_⟩
  refine for_tup (xs := us) (fun i σ H' => ∃ y2 y3 y4 zs, σ = [some (.ref c), some (.ref fo), y2, y3, y4] ∧ Same H H' ∧ H' fo = some (.lst zs) ∧ TrsAt K H' (exs (b.take i)) zs) ⟨none, none, none, [], rfl, same_new nfo, upd_same, TrsAt.nil⟩ ?_ ?_ ?_
  · rintro i σ H' _ ⟨_, _, _, _, _, h, _⟩
    exact (Kt.same h).sq sq
  · rintro i x σ H2 hx ⟨y2, y3, y4, zs, rfl, s2, h2, t2⟩
    obtain ⟨t, ht, hT⟩ := r.get hx
    have hT := TrAt.kt (Kt.same s2) t x hT
    have bd := ex_le ht
    rw [flat_take ht]
    cases t with
    | op z as =>
      have hT0 := hT
      rw [TrAt] at hT
      obtain ⟨a, rfl, sq3⟩ := hT
      refine ⟨_, rfl, a, _, 0, .str z, rfl, rfl, sq3, at0, rfl, _, rfl, iteN (fun e => okB_op ok ht (V.str.inj e)) ?_⟩
      refine ⟨_, rfl, .inl ⟨rfl, _, SqL.of h2⟩, _, rfl, fo, _, _, rfl, rfl, h2, ?_, ?_⟩
      · rw [t2.length, sizeLine_eq]
        rw [Tr.ex] at bd
        have : [Tr.op z as].length = 1 := rfl
        omega
      · have kt : Kt H2 (upd H2 fo (.lst (zs ++ [.ref a]))) := Kt.but But.upd h2
        exact ⟨_, _, _, _, rfl, same_upd s2 nfo, upd_same, (TrsAt.kt kt _ _ t2).append (by rw [Tr.ex]; exact TrsAt.one (TrAt.kt kt _ _ hT0))⟩
    | loop m b' =>
      rw [TrAt] at hT
      obtain ⟨a, g, ws, rfl, sq3, sq4, r2⟩ := hT
      obtain ⟨c0, c1, ok2⟩ := okB_loop ok ht
      have fin2 := fines_get fin ht
      rw [Tr.fine] at fin2
      have ops2 := fines_ops b' fin2.2
      have bd2 : m.toNat * (exs b').length ≤ 100000 := by
        rw [Tr.ex, flat_len] at bd
        omega
      refine ⟨_, rfl, a, _, 0, .str "loop", rfl, rfl, sq3, rfl, rfl, _, rfl, iteP rfl ?_⟩
      refine ⟨_, rfl, a, _, 2, .ref g, rfl, rfl, sq3, rfl, _, b', rfl, ⟨g, ws, rfl, sq4, r2⟩, ok2, fin2.2, fin2.1, fun H3 l2 us2 s3 n3 h3 t3 => ?_⟩
      have nl2 : fo ≠ l2 := ne_of_none h2 n3
      refine ⟨_, rfl, a, _, 1, .int m, rfl, rfl, (Kt.same s3).sq sq3, rfl, _, rfl, Nat.zero_le _, fun e ne => ?_⟩
      have se : Same H3 (upd H3 e (.lst [])) := same_new ne
      refine ⟨.list ((exs b').map Tr.dat), .list [], .lst (SqL.of (se _ _ h3)) (Ops.dp ops2 (TrsAt.kt (Kt.same se) _ _ t3)), .lst (SqL.of upd_same) .nil, ops2.shaped, shaped_nil, .inr ⟨_, rfl, m, _, rfl, rfl, .inl ⟨by omega, by omega⟩, ?_⟩⟩
      obtain ⟨n, hn, hf, hl⟩ : ∃ n : Nat, m * (if (!PyData.eqv (.list ((exs b').map Tr.dat)) (.list [])) = true then 1 else 0) = (n : Int) ∧ (List.replicate n (exs b')).flatten = (List.replicate m.toNat (exs b')).flatten ∧ n ≤ 100000 := by
        rw [eqv_nil]
        cases hx : exs b' with
        | nil =>
          refine ⟨0, ?_, ?_, by decide⟩
          · show m * 0 = _
            rw [Int.mul_zero]
            rfl
          · rw [show (List.replicate m.toNat ([] : List Tr)).flatten = [] from List.flatten_replicate_nil]
            rfl
        | cons y ys =>
          refine ⟨m.toNat, ?_, rfl, ?_⟩
          · show m * 1 = _
            omega
          · rw [hx, List.length_cons] at bd2
            exact Nat.le_trans (Nat.le_mul_of_pos_right _ (Nat.succ_pos _)) bd2
      have hnl : n * (exs b').length ≤ 100000 := by
        have := congrArg List.length hf
        rw [flat_len, flat_len] at this
        omega
      refine ⟨(n : Int), ?_, by omega, by omega, ?_⟩
      · show [V.int (m * _)] = _
        rw [hn]
      rw [show ((n : Int)).toNat = n from rfl]
      have zl := t2.length
      refine for_range (lo := 0) (n := n) (fun j σ H' => ∃ y4, σ = [some (.ref c), some (.ref fo), some (.ref a), some (.ref l2), y4] ∧ Same H H' ∧ H' fo = some (.lst (zs ++ (List.replicate j us2).flatten)) ∧ H' l2 = some (.lst us2) ∧ TrsAt K H' (exs (b.take i)) zs ∧ TrsAt K H' (exs b') us2)
        ⟨_, rfl, (s2.trans s3).trans se, ?_, se _ _ h3, TrsAt.kt (Kt.same (s3.trans se)) _ _ t2, TrsAt.kt (Kt.same se) _ _ t3⟩ ?_ ?_
      · rw [List.replicate_zero, List.flatten_nil, List.append_nil]
        exact se _ _ (s3 _ _ h2)
      · rintro j σ H4 hj ⟨y4, rfl, s4, h4, h5, t4, t5⟩
        have e5 := t5.length
        refine ⟨_, rfl, .inl ⟨rfl, _, SqL.of h4⟩, _, rfl, fo, l2, _, us2, rfl, rfl, h4, h5, ?_, ?_⟩
        · rw [List.length_append, flat_len, zl, e5, sizeLine_eq]
          have : (j + 1) * (exs b').length ≤ n * (exs b').length := Nat.mul_le_mul_right _ hj
          rw [Nat.succ_mul] at this
          omega
        · have kt : Kt H4 (upd H4 fo (.lst ((zs ++ (List.replicate j us2).flatten) ++ us2))) := Kt.but But.upd h4
          refine ⟨_, rfl, same_upd s4 nfo, ?_, ?_, TrsAt.kt kt _ _ t4, TrsAt.kt kt _ _ t5⟩
          · rw [upd_same, rep_succ, List.append_assoc]
          · rw [upd_ne nl2.symm]
            exact h5
      · rintro σ H4 ⟨y4, rfl, s4, h4, h5, t4, t5⟩
        refine ⟨_, _, _, _, rfl, s4, h4, t4.append ?_⟩
        rw [Tr.ex, ← hf]
        exact trs_flat t5 n
  · rintro σ H2 ⟨y2, y3, y4, zs, rfl, s2, h2, t2⟩
    rw [r.length, take_all] at t2
    exact ⟨_, rfl, q H2 fo zs s2 nfo h2 t2⟩
theorem ok_exec (M : Bl mg) (F : At K mg "_law_executed" sExecuted ["_law_program"]) : ∀ d, Has P w K mg base d "_law_executed" ["_law_program"] (spExec K d)
  | 0 => Has.none F fun vs H Q E ⟨_, _, _, _, h, _⟩ => h
  | d + 1 => ok_exec1 M F (ok_exec M F d)
/-! ### the law's own count of steps -/
theorem ok_lsteps1 (M : Bl mg) (F : At K mg "_law_steps" sSteps ["_law_program"]) {n k : Nat} (h : Has P w K mg base k "_law_steps" ["_law_program"] (spTI K (okB n) lens)) : Has P w K mg base (k + 1) "_law_steps" ["_law_program"] (spTI K (okB (n + 1)) lens) := by
  obtain ⟨_, _, cSteps⟩ := h
  refine Has.by F scSteps (fun vs H Q E h => ?_) (fun f cdv A out s H vs Q E hg hr h => ?_)
  · obtain ⟨v, t, rfl, _⟩ := h
    rfl
  obtain ⟨v, b, rfl, ⟨c, us, rfl, sq, r⟩, ok, q⟩ := h
  refine ⟨_, (pss_one (ps_ret (pe_callB (cr_sum rfl) (by rfl) M.sum_ (by decide +kernel) (pa_cons (pe_lc (own := [("_law_item_here", 1)]) (g := gName 1) (by rfl) scSteps.nd (pi_tup (pv 0)) (blkOk_by (own := [("_law_item_here", 1)]) (N := ["_law_program", "_law_item_here"]) (sc := defScope sSteps) (by decide +kernel)) (fun _ _ _ _ _ => (pg_name (i := 1) scSteps.nd rfl (.inl rfl))) (fun _ _ _ _ _ => pts_nil) (fun _ _ _ _ _ => (pe_ifExp (pt_cmpR op_eq (pe_ix (ix_tupK (K := K) rfl) (pv 1) pe_int (fun _ _ => rfl)) pe_str (nomark _)) (pe_op op_mul (pe_ix (ix_tupK (K := K) rfl) (pv 1) pe_int (fun _ _ => rfl)) (pe_cal cSteps hg hr (by rfl) (pa_cons (pe_ix (ix_tupK (K := K) rfl) (pv 1) pe_int (fun _ _ => rfl)) pa_nil))) pe_int))) pa_nil)))), ?_⟩
  refine ⟨_, rfl, c, rfl, ⟨_, sq⟩, fun D nD => ?_⟩
  refine lc_tup (xs := us) (fun i H' => H' D = some (.lst (((b.take i).map Tr.len).map V.int)) ∧ Same H H') ⟨upd_same, same_new nD⟩ (fun i H' _ h => (Kt.same h.2).sq sq) ?_ ?_
  · rintro i x H' hx ⟨e1, e2⟩
    obtain ⟨t, ht, hT⟩ := r.get hx
    have hT := TrAt.kt (Kt.same e2) t x hT
    have fit : (((b.take i).map Tr.len).map V.int).length < sizeLine := by
      rw [List.length_map, List.length_map, List.length_take]
      exact small1000 (Nat.le_trans (Nat.min_le_right _ _) ok.2)
    refine ⟨rfl, ?_⟩
    cases t with
    | op z as =>
      rw [TrAt] at hT
      obtain ⟨a, rfl, sq3⟩ := hT
      refine ⟨_, rfl, a, _, 0, .str z, rfl, rfl, sq3, at0, rfl, _, rfl, iteN (fun e => okB_op ok ht (V.str.inj e)) ?_⟩
      refine ⟨_, e1, fit, ?_, same_upd e2 nD⟩
      rw [upd_same, map_next ht, List.map_append, Tr.len]
      rfl
    | loop m b' =>
      rw [TrAt] at hT
      obtain ⟨a, g, ws, rfl, sq3, sq4, r2⟩ := hT
      obtain ⟨c0, c1, ok2⟩ := okB_loop ok ht
      refine ⟨_, rfl, a, _, 0, .str "loop", rfl, rfl, sq3, rfl, rfl, _, rfl, iteP rfl ?_⟩
      refine ⟨_, rfl, a, _, 1, .int m, rfl, rfl, sq3, rfl, _, rfl, a, _, 2, .ref g, rfl, rfl, sq3, rfl, _, b', rfl, ⟨g, ws, rfl, sq4, r2⟩, ok2, fun H2 sm => ?_⟩
      refine ⟨m, _, rfl, rfl, .inl ⟨by omega, by omega⟩, _, sm _ _ e1, fit, ?_, same_upd (e2.trans sm) nD⟩
      rw [upd_same, map_next ht, List.map_append, Tr.len]
      rfl
  · rintro H' ⟨e1, e2⟩
    rw [r.length, take_all] at e1
    refine ⟨D, _, rfl, SqL.of e1, ?_⟩
    rw [← lens_map]
    exact q H' e2
theorem ok_lsteps (M : Bl mg) (F : At K mg "_law_steps" sSteps ["_law_program"]) : ∀ n, Has P w K mg base n "_law_steps" ["_law_program"] (spTI K (okB n) lens)
  | 0 => Has.none F fun vs H Q E ⟨_, _, _, _, h, _⟩ => h
  | n + 1 => ok_lsteps1 M F (ok_lsteps M F n)
end
end K16
set_option Elab.async false
set_option linter.all false
set_option maxRecDepth 100000
set_option pp.maxSteps 500
set_option pp.deepTerms.threshold 8
set_option pp.deepTerms false
namespace K16
open PySem PySem.Spec PyProof.Rows L2 Lj
section
variable {P : Program} {w : World} {K : PySem.W.Frag} {mg : Str → Option Value} {base : Heap}
theorem body_one {H : Hp} {t : Tr} {v : V} {a : Addr} (n : H a = none) (h : TrAt K H t v) : BodyAt K (upd H a (.tup [v])) [t] (.ref a) := ⟨a, [v], rfl, SqT.of upd_same, TrsAt.one (TrAt.kt (Kt.same (same_new n)) _ _ h)⟩
theorem take_next {b : List Tr} {i : Nat} {t : Tr} (e : b[i]? = some t) (m : Nat) (h : (exs (b.take i)).length ≤ m) : (exs (b.take (i + 1))).take m = exs (b.take i) ++ t.ex.take (m - (exs (b.take i)).length) := by
  rw [flat_take e, List.take_append, List.take_of_length_le h]
theorem take_before {b : List Tr} {i m : Nat} (h : m ≤ (exs (b.take i)).length) : (exs b).take m = (exs (b.take i)).take m := by
  have e : exs b = exs (b.take i) ++ exs (b.drop i) := by rw [exs_map, exs_map, exs_map, ← List.flatten_append, ← List.map_append, List.take_append_drop]
  rw [e, List.take_append_of_le_length h]
theorem wfs_take {b : List Tr} {n i : Nat} (h : wfs b n) : wfs (b.take i) n := wfs_all fun t m => by
  obtain ⟨j, hj, e⟩ := List.mem_iff_getElem.mp (List.mem_of_mem_take m)
  exact wfs_get (i := j) h (by rw [List.getElem?_eq_getElem hj, e])
/-- the steps before a moment that lies within the instruction at i -/
theorem take_in {b : List Tr} {i n : Nat} {t : Tr} (ok : wfs b n) (ht : b[i]? = some t) {m : Int} (h0 : lens (b.take i) ≤ m) (h1 : m - lens (b.take i) < t.len) : (exs b).take m.toNat = exs (b.take i) ++ t.ex.take (m - lens (b.take i)).toNat := by
  have el := exs_len (b.take i) n (wfs_take ok)
  have tl := Tr.ex_len t n (wfs_get ok ht)
  have l2 : (exs (b.take (i + 1))).length = (exs (b.take i)).length + t.ex.length := by rw [flat_take ht, List.length_append]
  rw [take_before (i := i + 1) (by omega), take_next ht _ (by omega)]
  congr 2
  omega
theorem lens_next {b : List Tr} {i : Nat} {t : Tr} (e : b[i]? = some t) : lens (b.take (i + 1)) = lens (b.take i) + t.len := by rw [lens_map, lens_map, sum_next e]
theorem rc_next {b : List Tr} {i : Nat} {t : Tr} (e : b[i]? = some t) : rc (exs (b.take (i + 1))) = rc (exs (b.take i)) + rc t.ex := by rw [flat_take e, rc_append]
/-- within a loop -/
theorem rc_in {b : List Tr} {n : Nat} {k m : Int} (ok : wfs b n) (m0 : 0 ≤ m) (lp : 0 < lens b) (h : m < k * lens b) : rc ((Tr.ex (.loop k b)).take m.toNat) = m / lens b * cnts "read" b + rc ((exs b).take (m % lens b).toNat) := by
  have el := exs_len b n ok
  have hk : 0 < k := by
    by_cases z : 0 < k
    · exact z
    · have := Int.mul_le_mul_of_nonneg_right (show k ≤ 0 by omega) (Int.le_of_lt lp)
      rw [Int.zero_mul] at this
      omega
  have h0 : ((k.toNat * (exs b).length : Nat) : Int) = k * lens b := by
    rw [Int.natCast_mul, el]
    congr 1
    omega
  have ed : ((m.toNat / (exs b).length : Nat) : Int) = m / lens b := by
    rw [Int.natCast_ediv, el]
    congr 1
    omega
  have er : ((m.toNat % (exs b).length : Nat) : Int) = m % lens b := by
    rw [Int.natCast_emod, el]
    congr 1
    omega
  rw [Tr.ex, rc_loop (exs b) k.toNat m.toNat (by omega) (by omega), ed, rc_exs ok]
  congr 2
  congr 1
  omega
theorem ok_rwithin (M : Bl mg) (F : At K mg "reads_within" sReads_within ["instruction", "moment"]) {n k : Nat} (hn : n ≤ 6) (h1 : Has P w K mg base k "step_count" ["program"] (spTI K (okB n) lens)) (h2 : Has P w K mg base k "read_count" ["program"] (spTI K (okB n) (cnts "read")))
    (h3 : Has P w K mg base k "reads_before" ["program", "moment"] (spRB K n)) : Has P w K mg base (k + 1) "reads_within" ["instruction", "moment"] (spRW K n) := by
  obtain ⟨_, _, cStep_count⟩ := h1
  obtain ⟨_, _, cRead_count⟩ := h2
  obtain ⟨_, _, cReads_before⟩ := h3
  refine Has.by F scReads_within (fun vs H Q E h => ?_) (fun f cdv A out s H vs Q E hg hr h => ?_)
  · obtain ⟨_, _, _, rfl, _⟩ := h
    rfl
  obtain ⟨v, t, m, rfl, hT, ok, m0, m1, q⟩ := h
  refine ⟨_, (pss_cons (ps_if (pt_cmpR op_ne (pe_ix ix_tup (pv 0) pe_int (fun _ _ => rfl)) pe_str (nomark _))
    (pss_one (ps_ret pe_int))
    pss_nil)
  (pss_cons (ps_set (i := 2) scReads_within.nd rfl (.inl rfl) (pe_ix ix_tup (pv 0) pe_int (fun _ _ => rfl)))
  (pss_cons (ps_asg (pe_callB call_divmodW (by rfl) M.divmod_ (by decide +kernel) (pa_cons (pv 1) (pa_cons (pe_cal cStep_count hg hr (by rfl) (pa_cons (pv 2) pa_nil)) pa_nil))) (pg_tup rfl (pgs_cons (pg_name (i := 3) scReads_within.nd rfl (.inl rfl)) (pgs_cons (pg_name (i := 4) scReads_within.nd rfl (.inl rfl)) pgs_nil))))
  (pss_one (ps_ret (pe_op op_add (pe_op op_mul (pv 3) (pe_cal cRead_count hg hr (by rfl) (pa_cons (pv 2) pa_nil))) (pe_cal cReads_before hg hr (by rfl) (pa_cons (pv 2) (pa_cons (pv 4) pa_nil))))))))), ?_⟩
  cases t with
  | op z as =>
    rw [TrAt] at hT
    obtain ⟨a, rfl, sq⟩ := hT
    rw [Tr.len] at m1
    have e1 : m = 0 := by omega
    subst e1
    refine ⟨_, rfl, a, _, 0, .str z, rfl, rfl, sq, at0, rfl, _, rfl, iteNN (fun e => okB_op (i := 0) ok rfl (V.str.inj e)) ?_⟩
    exact q H (Same.refl H)
  | loop kk b =>
    rw [TrAt] at hT
    obtain ⟨a, g, us, rfl, sq, sq2, r⟩ := hT
    obtain ⟨c0, c1, ok2⟩ := okB_loop (i := 0) ok rfl
    obtain ⟨n', rfl⟩ : ∃ n', n = n' + 1 := by
      cases n with
      | zero => exact ok2.elim
      | succ n' => exact ⟨n', rfl⟩
    rw [Tr.len] at m1
    have hB : BodyAt K H b (.ref g) := ⟨g, us, rfl, sq2, r⟩
    have lp : 0 < lens b := by
      have h0 := (lens_bd b n' ok2.1).1
      by_cases z : lens b = 0
      · rw [z, Int.mul_zero] at m1
        omega
      · omega
    rw [rc_in ok2.1 m0 lp m1] at q
    refine ⟨_, rfl, a, _, 0, .str "loop", rfl, rfl, sq, rfl, rfl, _, rfl, iteNS rfl ?_⟩
    refine ⟨_, rfl, a, _, 2, .ref g, rfl, rfl, sq, rfl, ?_⟩
    refine ⟨_, rfl, _, rfl, _, b, rfl, hB, ok2, fun H2 s2 => ?_⟩
    refine ⟨m, lens b, rfl, div_ok (k := 1000) lp (lens_log ok2 (by omega)) (by decide) (by decide), fun p np => ?_⟩
    refine ⟨p, _, rfl, SqT.of upd_same, rfl, _, _, rfl, _, _, rfl, rfl, ?_⟩
    have s3 := same_new (o := .tup [.int (m / lens b), .int (m % lens b)]) np
    have r0 := Int.emod_nonneg m (show lens b ≠ 0 by omega)
    have d0 : 0 ≤ m / lens b := Int.ediv_nonneg m0 (by omega)
    have d1 : m / lens b < kk := (Int.ediv_lt_iff_lt_mul lp).mpr m1
    refine ⟨_, rfl, _, rfl, _, b, rfl, hB.kt (Kt.same (s2.trans s3)), ok2, fun H4 s4 => ?_⟩
    refine ⟨_, _, rfl, rfl, .inl ⟨by omega, by omega⟩, _, rfl, _, rfl, _, b, m % lens b, rfl, hB.kt (Kt.same ((s2.trans s3).trans s4)), ok2, r0, fun H5 s5 => ?_⟩
    exact ⟨_, _, rfl, rfl, q H5 (((s2.trans s3).trans s4).trans s5)⟩
theorem ok_rbefore (M : Bl mg) (F : At K mg "reads_before" sReads_before ["program", "moment"]) {n k : Nat} (h1 : Has P w K mg base k "length" ["instruction"] (spII K (fun t => okB (n + 1) [t]) Tr.len)) (h2 : Has P w K mg base k "read_count" ["program"] (spTI K (okB (n + 1)) (cnts "read")))
    (h3 : Has P w K mg base k "reads_within" ["instruction", "moment"] (spRW K n)) : Has P w K mg base (k + 1) "reads_before" ["program", "moment"] (spRB K (n + 1)) := by
  obtain ⟨_, _, cLength⟩ := h1
  obtain ⟨_, _, cRead_count⟩ := h2
  obtain ⟨_, _, cReads_within⟩ := h3
  refine Has.by F scReads_before (fun vs H Q E h => ?_) (fun f cdv A out s H vs Q E hg hr h => ?_)
  · obtain ⟨_, _, _, rfl, _⟩ := h
    rfl
  obtain ⟨v, b, m, rfl, ⟨c, us, rfl, sq, r⟩, ok, m0, q⟩ := h
  refine ⟨_, (pss_cons (ps_set (i := 2) scReads_before.nd rfl (.inl rfl) pe_int)
  (pss_cons (ps_set (i := 3) scReads_before.nd rfl (.inl rfl) (pv 1))
  (pss_cons (ps_for PassesOwn.never rfl (pi_tup (pv 0)) (pg_name (i := 4) scReads_before.nd rfl (.inl rfl))
    (pss_cons (ps_if (pt_cmpR op_lt (pv 3) (pe_cal cLength hg hr (by rfl) (pa_cons (pv 4) pa_nil)) (nomark _))
    (pss_one (ps_ret (pe_op op_add (pv 2) (pe_cal cReads_within hg hr (by rfl) (pa_cons (pv 4) (pa_cons (pv 3) pa_nil))))))
    pss_nil)
  (pss_cons (ps_aug (i := 2) scReads_before.nd rfl (.inl rfl) (pe_cal cRead_count hg hr (by rfl) (pa_cons (pe_tup (pa_cons (pv 4) pa_nil)) pa_nil)) ip_add)
  (pss_one (ps_aug (i := 3) scReads_before.nd rfl (.inl rfl) (pe_cal cLength hg hr (by rfl) (pa_cons (pv 4) pa_nil)) ip_sub)))))
  (pss_one (ps_ret (pv 2)))))), ?_⟩
  refine ⟨_, rfl, ?_⟩
  refine ⟨_, rfl, c, rfl, ⟨_, sq⟩, ?_⟩
  refine for_tup (xs := us) (fun i σ H' => ∃ y4, σ = [some (.ref c), some (.int m), some (.int (rc (exs (b.take i)))), some (.int (m - lens (b.take i))), y4] ∧ Same H H' ∧ lens (b.take i) ≤ m) ⟨none, ?_, Same.refl H, m0⟩ (fun i σ H' _ h => ?_) ?_ ?_
  · show _ = [_, _, _, some (V.int (m - 0)), _]
    rw [Int.sub_zero]
    rfl
  · obtain ⟨_, _, h, _⟩ := h
    exact (Kt.same h).sq sq
  · rintro i x σ H2 hx ⟨y4, rfl, s2, hle⟩
    obtain ⟨t, ht, hT⟩ := r.get hx
    have hT := TrAt.kt (Kt.same s2) t x hT
    have wt := wfs_get ok.1 ht
    have okt : okB (n + 1) [t] := ⟨by rw [wfs, wfs]; exact ⟨wt, trivial⟩, by show 1 ≤ 1000; decide⟩
    refine ⟨_, rfl, _, rfl, x, t, rfl, hT, okt, fun H3 s3 => ?_⟩
    refine ⟨_, _, rfl, rfl, _, rfl, ite2 (fun cc => ?_) (fun cc => ?_)⟩
    · have e : m - lens (b.take i) < t.len := of_decide_eq_true cc
      refine ⟨_, rfl, _, rfl, _, rfl, x, t, m - lens (b.take i), rfl, TrAt.kt (Kt.same s3) t x hT, okt, by omega, e, fun H4 s4 => ?_⟩
      refine ⟨_, _, rfl, rfl, ?_⟩
      have q4 := q H4 ((s2.trans s3).trans s4)
      rw [take_in ok.1 ht hle e, rc_append] at q4
      exact q4
    have e : ¬ m - lens (b.take i) < t.len := of_decide_eq_false (Bool.eq_false_iff.mpr cc)
    refine ⟨_, rfl, _, rfl, (by show 1 ≤ sizeLine; decide), fun a1 na1 => ?_⟩
    have s4 := same_new (o := .tup [x]) na1
    refine ⟨_, [t], rfl, body_one na1 (TrAt.kt (Kt.same s3) t x hT), okt, fun H5 s5 => ?_⟩
    refine ⟨_, _, rfl, rfl, ?_⟩
    have s25 := ((s2.trans s3).trans s4).trans s5
    refine ⟨_, rfl, _, rfl, x, t, rfl, TrAt.kt (Kt.same ((s3.trans s4).trans s5)) t x hT, okt, fun H6 s6 => ?_⟩
    refine ⟨_, _, rfl, rfl, some x, ?_, s25.trans s6, by rw [lens_next ht]; omega⟩
    rw [rc_next ht, lens_next ht, rc_ex wt, cnts, cnts, Int.add_zero]
    show _ = [_, _, _, some (V.int (m - (lens (b.take i) + t.len))), _]
    rw [← Int.sub_sub]
    rfl
  · rintro σ H2 ⟨y4, rfl, s2, hle⟩
    rw [r.length, take_all] at hle
    have q2 := q H2 s2
    have el := exs_len b n ok.1
    rw [List.take_of_length_le (by omega)] at q2
    rw [r.length, take_all]
    exact ⟨_, rfl, q2⟩
theorem ok_rbefores (M : Bl mg) (FL : At K mg "length" sLength ["instruction"]) (FS : At K mg "step_count" sStep_count ["program"]) (FR : At K mg "read_count" sRead_count ["program"]) (FC : At K mg "word_count" sWord_count ["program", "word"]) (FW : At K mg "reads_within" sReads_within ["instruction", "moment"])
    (F : At K mg "reads_before" sReads_before ["program", "moment"]) : ∀ n, n ≤ 7 → Has P w K mg base (2 * n + 1) "reads_before" ["program", "moment"] (spRB K n)
  | 0, _ => Has.none F fun vs H Q E ⟨_, _, _, _, _, h, _⟩ => h
  | n + 1, hn => ok_rbefore (k := 2 * n + 2) M F ((ok_length M FL (ok_steps M FL FS n)).up (Nat.le_succ _)) ((ok_read FR (ok_word M FC (n + 1))).up (by omega)) (ok_rwithin (k := 2 * n + 1) M FW (by omega) ((ok_steps M FL FS n).up (Nat.le_succ _)) ((ok_read FR (ok_word M FC n)).up (by omega)) (ok_rbefores M FL FS FR FC FW F n (by omega)))
/-! ### the law's own -/
end
section
variable {P : Program} {w : World} {K : PySem.W.Frag} {mg : Str → Option Value} {base : Heap}
/-! ### assigns -/
theorem ok_assigns (M : Bl mg) (F : At K mg "assigns" sAssigns ["instruction", "x"]) {k : Nat} : Has P w K mg base (k + 1) "assigns" ["instruction", "x"] (spAsg K) := by
  refine Has.by F scAssigns (fun vs H Q E h => ?_) (fun f cdv A out s H vs Q E hg hr h => ?_)
  · obtain ⟨_, _, _, _, rfl, _⟩ := h
    rfl
  obtain ⟨v, z, as, x, rfl, hT, ne, q⟩ := h
  rw [TrAt] at hT
  obtain ⟨a, rfl, sq⟩ := hT
  refine ⟨_, (pss_cons (ps_if (pt_cmpR op_eq (pe_ix ix_tup (pv 0) pe_int (fun _ _ => rfl)) pe_str (nomark _))
    (pss_one (ps_ret pe_bl))
    pss_nil)
  (pss_cons (ps_if (pt_cmpR op_eq (pe_ix ix_tup (pv 0) pe_int (fun _ _ => rfl)) pe_str (nomark _))
    (pss_one (ps_ret (pe_cmpR op_in_seq (pv 1) (pe_slice sl_tup (pv 0) (po_some pe_int) po_none) (by rfl))))
    pss_nil)
  (pss_one (ps_ret (pe_cmpR op_eq (pe_ix ix_tup (pv 0) pe_int (fun _ _ => rfl)) (pv 1) (nomark _)))))), ?_⟩
  refine ⟨_, rfl, a, _, 0, .str z, rfl, rfl, sq, at0, rfl, _, rfl, ite2 (fun c => ?_) (fun c => ?_)⟩
  · have e : z = "write" := V.str.inj (of_decide_eq_true c)
    have e2 : decide (x ∈ asgs z as) = false := by
      subst e
      rfl
    have q0 := q H (Same.refl H)
    rw [e2] at q0
    exact q0
  have n1 : z ≠ "write" := fun e => c (decide_eq_true (congrArg V.str e))
  refine ⟨_, rfl, a, _, 0, .str z, rfl, rfl, sq, at0, rfl, _, rfl, ite2 (fun c => ?_) (fun c => ?_)⟩
  · have e : z = "swap" := V.str.inj (of_decide_eq_true c)
    refine ⟨_, rfl, _, rfl, 1, rfl, a, _, rfl, sq, cut_tail_ne _ _, fun t nt => ?_⟩
    rw [cut_tail]
    refine ⟨t, _, rfl, .inr (SqT.of upd_same), rfl, flat_ints as, ?_⟩
    have q0 := q _ (same_new (o := .tup (as.map V.int)) nt)
    unfold asgs at q0
    rw [if_pos e] at q0
    show Q (.bl (inV (.int x) (as.map V.int))) _
    rw [inV_ints]
    exact q0
  have n2 : z ≠ "swap" := fun e => c (decide_eq_true (congrArg V.str e))
  cases as with
  | nil => exact absurd rfl ne
  | cons y ys =>
    refine ⟨_, rfl, a, _, 1, .int y, rfl, rfl, sq, atI_nat (j := 1) rfl, _, rfl, rfl, ?_⟩
    have q0 := q H (Same.refl H)
    unfold asgs at q0
    rw [if_neg n2, if_neg n1] at q0
    have e : decide (V.int y = V.int x) = decide (x ∈ (y :: ys).take 1) := by
      rw [Bool.eq_iff_iff, decide_eq_true_iff, decide_eq_true_iff]
      show _ ↔ x ∈ [y]
      rw [List.mem_singleton]
      exact ⟨fun h => (V.int.inj h).symm, fun h => congrArg V.int h.symm⟩
    rw [e]
    exact q0
/-! ### last_within and last_assignment -/
theorem ok_within (M : Bl mg) (F : At K mg "last_within" sLast_within ["instruction", "moment", "x"]) {n k : Nat} (hn : n ≤ 6) (h1 : Has P w K mg base k "step_count" ["program"] (spTI K (okB n) lens)) (h2 : Has P w K mg base k "assigns" ["instruction", "x"] (spAsg K))
    (h3 : Has P w K mg base k "last_assignment" ["program", "moment", "x"] (spLA K n)) : Has P w K mg base (k + 1) "last_within" ["instruction", "moment", "x"] (spLW K n) := by
  obtain ⟨_, _, cStep_count⟩ := h1
  obtain ⟨_, _, cAssigns⟩ := h2
  obtain ⟨_, _, cLast_assignment⟩ := h3
  refine Has.by F scLast_within (fun vs H Q E h => ?_) (fun f cdv A out s H vs Q E hg hr h => ?_)
  · obtain ⟨_, _, _, _, rfl, _⟩ := h
    rfl
  obtain ⟨v, t, m, x, rfl, hT, ok, ar, m0, m1, q⟩ := h
  refine ⟨_, (pss_cons (ps_if (pt_cmpR op_eq (pv 1) pe_int (nomark _))
    (pss_one (ps_ret pe_non))
    pss_nil)
  (pss_cons (ps_if (pt_cmpR op_ne (pe_ix ix_tup (pv 0) pe_int (fun _ _ => rfl)) pe_str (nomark _))
    (pss_one (ps_ret (pe_ifExp (pt_val (pe_cal cAssigns hg hr (by rfl) (pa_cons (pv 0) (pa_cons (pv 2) pa_nil)))) pe_int pe_non)))
    pss_nil)
  (pss_cons (ps_set (i := 3) scLast_within.nd rfl (.inl rfl) (pe_ix ix_tup (pv 0) pe_int (fun _ _ => rfl)))
  (pss_cons (ps_set (i := 4) scLast_within.nd rfl (.inl rfl) (pe_cal cStep_count hg hr (by rfl) (pa_cons (pv 3) pa_nil)))
  (pss_cons (ps_asg (pe_callB call_divmodW (by rfl) M.divmod_ (by decide +kernel) (pa_cons (pv 1) (pa_cons (pv 4) pa_nil))) (pg_tup rfl (pgs_cons (pg_name (i := 5) scLast_within.nd rfl (.inl rfl)) (pgs_cons (pg_name (i := 6) scLast_within.nd rfl (.inl rfl)) pgs_nil))))
  (pss_cons (ps_set (i := 7) scLast_within.nd rfl (.inl rfl) (pe_cal cLast_assignment hg hr (by rfl) (pa_cons (pv 3) (pa_cons (pv 6) (pa_cons (pv 2) pa_nil)))))
  (pss_cons (ps_if (pt_cmpR op_notN (pv 7) pe_non (nomark _))
    (pss_one (ps_ret (pe_op op_add (pe_op op_mul (pv 5) (pv 4)) (pv 7))))
    pss_nil)
  (pss_cons (ps_if (pt_cmpR op_eq (pv 5) pe_int (nomark _))
    (pss_one (ps_ret pe_non))
    pss_nil)
  (pss_cons (ps_set (i := 7) scLast_within.nd rfl (.inl rfl) (pe_cal cLast_assignment hg hr (by rfl) (pa_cons (pv 3) (pa_cons (pv 4) (pa_cons (pv 2) pa_nil)))))
  (pss_one (ps_ret (pe_ifExp (pt_cmpR op_isN (pv 7) pe_non (nomark _)) pe_non (pe_op op_add (pe_op op_mul (pe_op op_sub (pv 5) pe_int) (pv 4)) (pv 7)))))))))))))), ?_⟩
  refine ⟨_, rfl, rfl, _, rfl, ite2 (fun c => ?_) (fun c => ?_)⟩
  · have e : m = 0 := V.int.inj (of_decide_eq_true c)
    subst e
    exact q H (Same.refl H)
  have m2 : m ≠ 0 := fun e => c (decide_eq_true (congrArg V.int e))
  have hT0 := hT
  cases t with
  | op z as =>
    rw [TrAt] at hT
    obtain ⟨a, rfl, sq⟩ := hT
    rw [Tr.hasArgs] at ar
    rw [Tr.len] at m1
    have e1 : m = 1 := by omega
    subst e1
    refine ⟨_, rfl, a, _, 0, .str z, rfl, rfl, sq, at0, rfl, _, rfl, iteNN (fun e => okB_op (i := 0) ok rfl (V.str.inj e)) ?_⟩
    refine ⟨_, rfl, _, rfl, _, z, as, x, rfl, hT0, ar, fun H2 s2 => ?_⟩
    have q2 := q H2 s2
    rw [Tr.ex, show [Tr.op z as].take (1 : Int).toNat = [Tr.op z as] from rfl, la_one] at q2
    refine ⟨_, rfl, ?_⟩
    by_cases hx : x ∈ asgs z as
    · rw [if_pos hx] at q2
      exact iteP hx q2
    · rw [if_neg hx] at q2
      exact iteN hx q2
  | loop kk b =>
    rw [TrAt] at hT
    obtain ⟨a, g, us, rfl, sq, sq2, r⟩ := hT
    obtain ⟨c0, c1, ok2⟩ := okB_loop (i := 0) ok rfl
    obtain ⟨n', rfl⟩ : ∃ n', n = n' + 1 := by
      cases n with
      | zero => exact ok2.elim
      | succ n' => exact ⟨n', rfl⟩
    rw [Tr.hasArgs] at ar
    rw [Tr.len] at m1
    have hB : BodyAt K H b (.ref g) := ⟨g, us, rfl, sq2, r⟩
    have el := exs_len b n' ok2.1
    have lp : 0 < lens b := by
      have h0 := (lens_bd b n' ok2.1).1
      by_cases z : lens b = 0
      · rw [z, Int.mul_zero] at m1
        omega
      · omega
    have key := la_loop x (exs b) kk.toNat m.toNat (by omega) (by
      have h0 : ((kk.toNat * (exs b).length : Nat) : Int) = kk * lens b := by
        rw [Int.natCast_mul, el]
        congr 1
        omega
      omega)
    rw [Tr.ex] at q
    rw [key] at q
    have ed : ((m.toNat / (exs b).length : Nat) : Int) = m / lens b := by
      rw [Int.natCast_ediv, el]
      congr 1
      omega
    have er : ((m.toNat % (exs b).length : Nat) : Int) = m % lens b := by
      rw [Int.natCast_emod, el]
      congr 1
      omega
    refine ⟨_, rfl, a, _, 0, .str "loop", rfl, rfl, sq, rfl, rfl, _, rfl, iteNS rfl ?_⟩
    refine ⟨_, rfl, a, _, 2, .ref g, rfl, rfl, sq, rfl, ?_⟩
    refine ⟨_, rfl, _, b, rfl, hB, ok2, fun H2 s2 => ?_⟩
    refine ⟨_, rfl, _, rfl, m, lens b, rfl, div_ok (k := 1000) lp (lens_log ok2 (by omega)) (by decide) (by decide), fun p np => ?_⟩
    refine ⟨p, _, rfl, SqT.of upd_same, rfl, _, _, rfl, _, _, rfl, rfl, ?_⟩
    have s3 := same_new (o := .tup [.int (m / lens b), .int (m % lens b)]) np
    have r0 := Int.emod_nonneg m (show lens b ≠ 0 by omega)
    have d0 : 0 ≤ m / lens b := Int.ediv_nonneg m0 (by omega)
    refine ⟨_, rfl, _, rfl, _, rfl, _, b, m % lens b, x, rfl, hB.kt (Kt.same (s2.trans s3)), ok2, ar, r0, fun H4 s4 => ?_⟩
    have s24 : Same H H4 := (s2.trans s3).trans s4
    rw [show (m % lens b).toNat = m.toNat % (exs b).length by omega]
    cases h1 : la x ((exs b).take (m.toNat % (exs b).length)) with
    | some j =>
      rw [h1] at q
      refine ⟨_, rfl, rfl, _, rfl, iteNN (by intro z; cases z) ?_⟩
      refine ⟨_, rfl, _, rfl, m / lens b, lens b, rfl, rfl, .inl ?_, _, rfl, _, (j : Int), rfl, rfl, ?_⟩
      · have : m / lens b ≤ kk := Int.ediv_le_of_le_mul lp m1
        exact ⟨by omega, by omega⟩
      · have q4 := q H4 s24
        have e : ((m.toNat / (exs b).length * (exs b).length + j : Nat) : Int) = m / lens b * lens b + j := by rw [Int.natCast_add, Int.natCast_mul, ed, el]
        show Q (.int (m / lens b * lens b + j)) H4
        rw [← e]
        exact q4
    | none =>
      rw [h1] at q
      refine ⟨_, rfl, rfl, _, rfl, iteNS rfl ?_⟩
      refine ⟨_, rfl, rfl, _, rfl, ite2 (fun c => ?_) (fun c => ?_)⟩
      · have e : m / lens b = 0 := V.int.inj (of_decide_eq_true c)
        have e2 : m.toNat / (exs b).length = 0 := by omega
        have q4 := q H4 s24
        rw [e2] at q4
        exact q4
      have e : m / lens b ≠ 0 := fun e => c (decide_eq_true (congrArg V.int e))
      obtain ⟨t, ht⟩ : ∃ t, m.toNat / (exs b).length = t + 1 := ⟨m.toNat / (exs b).length - 1, by omega⟩
      rw [ht] at q
      refine ⟨_, rfl, _, rfl, _, rfl, _, b, lens b, x, rfl, hB.kt (Kt.same s24), ok2, ar, by omega, fun H5 s5 => ?_⟩
      rw [show (lens b).toNat = (exs b).length by omega, List.take_length]
      have q5 := q H5 (s24.trans s5)
      cases h2 : la x (exs b) with
      | none =>
        rw [h2] at q5
        exact ⟨_, rfl, rfl, _, rfl, iteP rfl q5⟩
      | some j =>
        rw [h2] at q5
        refine ⟨_, rfl, rfl, _, rfl, iteN (by intro z; cases z) ?_⟩
        refine ⟨_, rfl, m / lens b, 1, rfl, rfl, _, rfl, _, lens b, rfl, rfl, .inl ?_, _, rfl, _, (j : Int), rfl, rfl, ?_⟩
        · have : m / lens b ≤ kk := Int.ediv_le_of_le_mul lp m1
          exact ⟨by omega, by omega⟩
        · have e : ((t * (exs b).length + j : Nat) : Int) = (m / lens b - 1) * lens b + j := by
            rw [Int.natCast_add, Int.natCast_mul, el]
            congr 2
            omega
          show Q (.int ((m / lens b - 1) * lens b + j)) H5
          rw [← e]
          exact q5
theorem ok_last (M : Bl mg) (F : At K mg "last_assignment" sLast_assignment ["program", "moment", "x"]) {n k : Nat} (h1 : Has P w K mg base k "length" ["instruction"] (spII K (fun t => okB (n + 1) [t]) Tr.len))
    (h2 : Has P w K mg base k "last_within" ["instruction", "moment", "x"] (spLW K n)) : Has P w K mg base (k + 1) "last_assignment" ["program", "moment", "x"] (spLA K (n + 1)) := by
  obtain ⟨_, _, cLength⟩ := h1
  obtain ⟨_, _, cLast_within⟩ := h2
  refine Has.by F scLast_assignment (fun vs H Q E h => ?_) (fun f cdv A out s H vs Q E hg hr h => ?_)
  · obtain ⟨_, _, _, _, rfl, _⟩ := h
    rfl
  obtain ⟨v, b, m, x, rfl, ⟨c, us, rfl, sq, r⟩, ok, ar, m0, q⟩ := h
  refine ⟨_, (pss_cons (ps_set (i := 3) scLast_assignment.nd rfl (.inl rfl) pe_non)
  (pss_cons (ps_set (i := 4) scLast_assignment.nd rfl (.inl rfl) pe_int)
  (pss_cons (ps_for PassesOwn.never rfl (pi_tup (pv 0)) (pg_name (i := 5) scLast_assignment.nd rfl (.inl rfl))
    (pss_cons (ps_if (pt_cmpR op_ge (pv 4) (pv 1) (nomark _))
    (pss_one ps_break)
    pss_nil)
  (pss_cons (ps_set (i := 6) scLast_assignment.nd rfl (.inl rfl) (pe_cal cLength hg hr (by rfl) (pa_cons (pv 5) pa_nil)))
  (pss_cons (ps_set (i := 7) scLast_assignment.nd rfl (.inl rfl) (pe_cal cLast_within hg hr (by rfl) (pa_cons (pv 5) (pa_cons (pe_callB (call_min2 rfl) (by rfl) M.min_ (by decide +kernel) (pa_cons (pv 6) (pa_cons (pe_op op_sub (pv 1) (pv 4)) pa_nil))) (pa_cons (pv 2) pa_nil)))))
  (pss_cons (ps_if (pt_cmpR op_notN (pv 7) pe_non (nomark _))
    (pss_one (ps_set (i := 3) scLast_assignment.nd rfl (.inl rfl) (pe_op op_add (pv 4) (pv 7))))
    pss_nil)
  (pss_one (ps_aug (i := 4) scLast_assignment.nd rfl (.inl rfl) (pv 6) ip_add)))))))
  (pss_one (ps_ret (pv 3)))))), ?_⟩
  refine ⟨_, rfl, c, rfl, ⟨_, sq⟩, ?_⟩
  refine for_tup (xs := us) (fun i σ H' => ∃ y5 y6 y7, σ = [some (.ref c), some (.int m), some (.int x), some (optV (la x ((exs (b.take i)).take m.toNat))), some (.int (lens (b.take i))), y5, y6, y7] ∧ Same H H') ⟨none, none, none, ?_, Same.refl H⟩ (fun i σ H' _ h => ?_) ?_ ?_
  · rw [List.take_zero, exs, List.take_nil]
    rfl
  · obtain ⟨_, _, _, _, h⟩ := h
    exact (Kt.same h).sq sq
  · rintro i y σ H2 hx ⟨y5, y6, y7, rfl, s2⟩
    obtain ⟨t, ht, hT⟩ := r.get hx
    have hT := TrAt.kt (Kt.same s2) t y hT
    have el := exs_len (b.take i) n (wfs_take ok.1)
    have okt : okB (n + 1) [t] := ⟨by rw [wfs, wfs]; exact ⟨wfs_get ok.1 ht, trivial⟩, by show 1 ≤ 1000; decide⟩
    refine ⟨_, rfl, _, rfl, _, _, rfl, rfl, _, rfl, ite2 (fun cc => ?_) (fun cc => ?_)⟩
    · have e : m ≤ lens (b.take i) := of_decide_eq_true cc
      have q2 := q H2 s2
      rw [take_before (i := i) (by omega)] at q2
      exact ⟨_, rfl, q2⟩
    have e : ¬ m ≤ lens (b.take i) := of_decide_eq_false (Bool.eq_false_iff.mpr cc)
    obtain ⟨t0, _⟩ := Tr.len_bd t n (wfs_get ok.1 ht)
    have tl := Tr.ex_len t n (wfs_get ok.1 ht)
    have ln : lens (b.take (i + 1)) = lens (b.take i) + t.len := by rw [lens_map, lens_map, sum_next ht]
    have hle : (exs (b.take i)).length ≤ m.toNat := by omega
    rw [take_next ht m.toNat hle, la_append, ln]
    refine ⟨_, rfl, y, t, rfl, hT, okt, fun H3 s3 => ?_⟩
    refine ⟨_, rfl, _, rfl, _, rfl, _, rfl, m, _, rfl, rfl, _, _, rfl, _, rfl, ?_⟩
    refine ⟨y, t, (if m - lens (b.take i) < t.len then m - lens (b.take i) else t.len), x, rfl, TrAt.kt (Kt.same s3) t y hT, okt, args_get ar ht, by split <;> omega, by split <;> omega, fun H4 s4 => ?_⟩
    have et : t.ex.take (if m - lens (b.take i) < t.len then m - lens (b.take i) else t.len).toNat = t.ex.take (m.toNat - (exs (b.take i)).length) := by
      split
      · congr 1
        omega
      · rw [List.take_of_length_le (by omega), List.take_of_length_le (by omega)]
    rw [et, List.take_of_length_le hle]
    have s24 : Same H H4 := (s2.trans s3).trans s4
    cases h1 : la x (t.ex.take (m.toNat - (exs (b.take i)).length)) with
    | none =>
      refine ⟨_, rfl, rfl, _, rfl, iteNS rfl ?_⟩
      exact ⟨_, rfl, _, rfl, _, _, rfl, rfl, _, _, _, rfl, s24⟩
    | some j =>
      refine ⟨_, rfl, rfl, _, rfl, iteNN (by intro z; cases z) ?_⟩
      refine ⟨_, rfl, _, rfl, _, (j : Int), rfl, rfl, ?_⟩
      refine ⟨_, rfl, _, rfl, _, _, rfl, rfl, some y, some (.int t.len), some (optV (some j)), ?_, s24⟩
      show _ = [_, _, _, some (V.int (((exs (b.take i)).length + j : Nat) : Int)), _, _, _, _]
      rw [Int.natCast_add, el]
      rfl
  · rintro σ H2 ⟨y5, y6, y7, rfl, s2⟩
    rw [r.length, take_all]
    exact ⟨_, rfl, q H2 s2⟩
theorem ok_lasts (M : Bl mg) (FL : At K mg "length" sLength ["instruction"]) (FS : At K mg "step_count" sStep_count ["program"]) (FA : At K mg "assigns" sAssigns ["instruction", "x"]) (FW : At K mg "last_within" sLast_within ["instruction", "moment", "x"])
    (F : At K mg "last_assignment" sLast_assignment ["program", "moment", "x"]) : ∀ n, n ≤ 7 → Has P w K mg base (2 * n + 1) "last_assignment" ["program", "moment", "x"] (spLA K n)
  | 0, _ => Has.none F fun vs H Q E ⟨_, _, _, _, _, _, h, _⟩ => h
  | n + 1, hn => ok_last (k := 2 * n + 2) M F ((ok_length M FL (ok_steps M FL FS n)).up (Nat.le_succ _)) (ok_within (k := 2 * n + 1) M FW (by omega) ((ok_steps M FL FS n).up (Nat.le_succ _)) ((ok_assigns (k := 0) M FA).up (Nat.le_add_left _ _)) (ok_lasts M FL FS FA FW F n (by omega)))
end
section
variable {P : Program} {w : World} {K : PySem.W.Frag} {mg : Str → Option Value} {base : Heap}
/-! ### is_between, place, locate -/
def spBt : Sp := fun vs H Q _ => ∃ v lo hi : Int, vs = [.int v, .int lo, .int hi] ∧ Q (.bl (decide (lo ≤ v) && decide (v ≤ hi))) H
theorem ok_bt (M : Bl mg) (F : At K mg "is_between" sIs_between ["value", "low", "high"]) {k : Nat} : Has P w K mg base (k + 1) "is_between" ["value", "low", "high"] spBt := by
  refine Has.by F scIs_between (fun vs H Q E h => ?_) (fun f cdv A out s H vs Q E hg hr h => ?_)
  · obtain ⟨_, _, _, rfl, _⟩ := h
    rfl
  obtain ⟨v, lo, hi, rfl, q⟩ := h
  refine ⟨_, (pss_one (ps_ret (pe_and (pe_callB call_isi (by rfl) M.isinstance_ (by decide +kernel) (pa_cons (pv 0) (pa_cons (pe_bltn (v := .ty "int") (by rfl) M.int_ (by decide +kernel) rfl) pa_nil))) (pe_and (pe_not (pe_callB call_isi (by rfl) M.isinstance_ (by decide +kernel) (pa_cons (pv 0) (pa_cons (pe_bltn (v := .ty "bool") (by rfl) M.bool_ (by decide +kernel) rfl) pa_nil)))) (pe_one (pe_chain op_le op_le (pv 1) (pv 0) (pv 2))))))), ?_⟩
  refine ⟨_, rfl, _, _, _, _, true, rfl, .ty _, .base (.int v), kit_ty (by decide +kernel), _, rfl, iteT ?_⟩
  refine ⟨_, rfl, _, _, _, _, false, rfl, .ty _, .base (.int v), kit_ty (by decide +kernel), _, rfl, _, rfl, iteT ?_⟩
  refine ⟨_, rfl, _, rfl, lo, v, rfl, rfl, _, rfl, ite2 (fun c => ?_) (fun c => ?_)⟩
  · have c' : decide (lo ≤ v) = true := c
    rw [c', Bool.true_and] at q
    exact ⟨_, rfl, v, hi, rfl, rfl, q⟩
  · have c' : decide (lo ≤ v) = false := Bool.eq_false_iff.mpr c
    rw [c', Bool.false_and] at q
    exact q
def spPlace (K : PySem.W.Frag) (n : Nat) : Sp := fun vs H Q _ => ∃ (v : V) (b : List Tr) (st : Int), vs = [v, .int st] ∧ BodyAt K H b v ∧ okB (n + 1) b ∧ 0 ≤ st ∧ st < lens b ∧
  ∀ (i : Nat) (t : Tr) (r : Int) p H', b[i]? = some t → 0 ≤ r → r < t.len → st = lens (b.take i) + r → Same H H' → H' p = some (.tup [.int (i : Nat), .int r]) → Q (.ref p) H'
theorem ok_place (M : Bl mg) (F : At K mg "place" sPlace ["program", "step"]) {n k : Nat} (h : Has P w K mg base k "length" ["instruction"] (spII K (fun t => okB (n + 1) [t]) Tr.len)) : Has P w K mg base (k + 1) "place" ["program", "step"] (spPlace K n) := by
  obtain ⟨_, _, cLength⟩ := h
  refine Has.by F scPlace (fun vs H Q E h => ?_) (fun f cdv A out s H vs Q E hg hr h => ?_)
  · obtain ⟨_, _, _, rfl, _⟩ := h
    rfl
  obtain ⟨v, b, st, rfl, ⟨c, us, rfl, sq, r⟩, ok, s0, s1, q⟩ := h
  refine ⟨_, (pss_cons (ps_set (i := 2) scPlace.nd rfl (.inl rfl) pe_int)
  (pss_cons (ps_set (i := 3) scPlace.nd rfl (.inl rfl) (pv 1))
  (pss_cons (ps_while PassesOwn.never (pt_cmpR op_ge (pv 3) (pe_cal cLength hg hr (by rfl) (pa_cons (pe_ix ix_tup (pv 0) (pv 2) (fun _ _ => rfl)) pa_nil)) (nomark _))
    (pss_cons (ps_aug (i := 3) scPlace.nd rfl (.inl rfl) (pe_cal cLength hg hr (by rfl) (pa_cons (pe_ix ix_tup (pv 0) (pv 2) (fun _ _ => rfl)) pa_nil)) ip_sub)
  (pss_one (ps_aug (i := 2) scPlace.nd rfl (.inl rfl) pe_int ip_add))))
  (pss_one (ps_ret (pe_tup (pa_cons (pv 2) (pa_cons (pv 3) pa_nil)))))))), ?_⟩
  refine ⟨_, rfl, ?_⟩
  refine ⟨fun m σ H' => ∃ i : Nat, σ = [some (.ref c), some (.int st), some (.int (i : Nat)), some (.int (st - lens (b.take i)))] ∧ Same H H' ∧ lens (b.take i) ≤ st ∧ m = b.length - i, ⟨_, 0, ?_, Same.refl H, s0, rfl⟩, ?_⟩
  · show _ = [_, _, _, some (V.int (st - 0))]
    rw [Int.sub_zero]
    rfl
  rintro m σ H2 ⟨i, rfl, s2, hle, rfl⟩
  have il : i < b.length := by
    by_cases g : i < b.length
    · exact g
    · rw [List.take_of_length_le (by omega)] at hle
      omega
  have ul := r.length
  obtain ⟨x, hx⟩ : ∃ x, us[i]? = some x := ⟨us[i]'(by omega), List.getElem?_eq_getElem (by omega)⟩
  obtain ⟨t, ht, hT⟩ := r.get hx
  have okt : okB (n + 1) [t] := ⟨by rw [wfs, wfs]; exact ⟨wfs_get ok.1 ht, trivial⟩, by show 1 ≤ 1000; decide⟩
  have sqk := (Kt.same s2).sq sq
  refine ⟨_, rfl, _, rfl, _, rfl, c, us, (i : Nat), x, rfl, rfl, sqk, atI_nat hx, x, t, rfl, TrAt.kt (Kt.same s2) t x hT, okt, fun H3 s3 => ?_⟩
  refine ⟨_, _, rfl, rfl, _, rfl, ite2 (fun cc => ?_) (fun cc => ?_)⟩
  · have e : t.len ≤ st - lens (b.take i) := of_decide_eq_true cc
    refine ⟨fun σ' H' => σ' = [some (.ref c), some (.int st), some (.int ((i + 1 : Nat) : Int)), some (.int (st - lens (b.take (i + 1))))] ∧ Same H H', ?_, ?_⟩
    · rintro σ' H' ⟨rfl, s'⟩
      exact ⟨b.length - (i + 1), by omega, i + 1, rfl, s', by rw [lens_nextL ht]; omega, rfl⟩
    · refine ⟨_, rfl, _, rfl, _, rfl, c, us, (i : Nat), x, rfl, rfl, (Kt.same s3).sq sqk, atI_nat hx, x, t, rfl, TrAt.kt (Kt.same (s2.trans s3)) t x hT, okt, fun H4 s4 => ?_⟩
      refine ⟨_, _, rfl, rfl, _, rfl, _, _, rfl, rfl, ?_, (s2.trans s3).trans s4⟩
      rw [lens_nextL ht, ← Int.sub_sub]
      rfl
  · have e : ¬ t.len ≤ st - lens (b.take i) := of_decide_eq_false (Bool.eq_false_iff.mpr cc)
    refine ⟨_, rfl, _, rfl, (by show 2 ≤ sizeLine; decide), fun p np => ?_⟩
    exact q i t (st - lens (b.take i)) p _ ht (by omega) (by omega) (by omega) ((s2.trans s3).trans (same_new np)) upd_same
def spLoc (K : PySem.W.Frag) (n : Nat) : Sp := fun vs H Q _ => ∃ (v : V) (b : List Tr) (st : Int), vs = [v, .int st] ∧ BodyAt K H b v ∧ okB (n + 1) b ∧ 0 ≤ st ∧ st < lens b ∧
  ∀ (ps : List Int) (z : Str) (as : List Int) p pa v' H', Same H H' → H' p = some (.tup [.ref pa, v']) → SqT K H' pa (ps.map V.int) → PT b ps (.op z as) 0 st → TrAt K H' (.op z as) v' → ps.length ≤ 100 → Q (.ref p) H'
theorem okB_up {n : Nat} {b : List Tr} (h : okB n b) : okB (n + 1) b := by
  cases n with
  | zero => exact h.elim
  | succ n => exact ⟨wfs_up h.1, h.2⟩
theorem okB_ups {b : List Tr} {n : Nat} : ∀ {m : Nat}, n ≤ m → okB n b → okB m b
  | 0, h, o => by
    obtain rfl : n = 0 := by omega
    exact o
  | m + 1, h, o => by
    by_cases e : n = m + 1
    · subst e
      exact o
    · exact okB_up (okB_ups (m := m) (by omega) o)
theorem ok_locate (M : Bl mg) (F : At K mg "locate" sLocate ["program", "step"]) {n k : Nat} (hn : n ≤ 6) (h1 : Has P w K mg base k "step_count" ["program"] (spTI K (okB (n + 1)) lens)) (h2 : Has P w K mg base k "is_between" ["value", "low", "high"] spBt) (h3 : Has P w K mg base k "place" ["program", "step"] (spPlace K n)) :
    Has P w K mg base (k + 1) "locate" ["program", "step"] (spLoc K n) := by
  obtain ⟨_, _, cStep_count⟩ := h1
  obtain ⟨_, _, cIs_between⟩ := h2
  obtain ⟨_, _, cPlace⟩ := h3
  refine Has.by F scLocate (fun vs H Q E h => ?_) (fun f cdv A out s H vs Q E hg hr h => ?_)
  · obtain ⟨_, _, _, rfl, _⟩ := h
    rfl
  obtain ⟨v, b, st, rfl, hB, ok, s0, s1, q⟩ := h
  refine ⟨_, (pss_cons (ps_if (pt_not (pt_val (pe_cal cIs_between hg hr (by rfl) (pa_cons (pv 1) (pa_cons pe_int (pa_cons (pe_op op_sub (pe_cal cStep_count hg hr (by rfl) (pa_cons (pv 0) pa_nil)) pe_int) pa_nil))))))
    (pss_one ps_never)
    pss_nil)
  (pss_cons (ps_asg (pe_cal cPlace hg hr (by rfl) (pa_cons (pv 0) (pa_cons (pv 1) pa_nil))) (pg_tup rfl (pgs_cons (pg_name (i := 2) scLocate.nd rfl (.inl rfl)) (pgs_cons (pg_name (i := 3) scLocate.nd rfl (.inl rfl)) pgs_nil))))
  (pss_cons (ps_set (i := 4) scLocate.nd rfl (.inl rfl) (pe_lst (pa_cons (pv 2) pa_nil)))
  (pss_cons (ps_set (i := 5) scLocate.nd rfl (.inl rfl) (pe_ix ix_tup (pv 0) (pv 2) (fun _ _ => rfl)))
  (pss_cons (ps_while PassesOwn.never (pt_cmpR op_eq (pe_ix ix_tup (pv 5) pe_int (fun _ _ => rfl)) pe_str (nomark _))
    (pss_cons (ps_set (i := 6) scLocate.nd rfl (.inl rfl) (pe_ix ix_tup (pv 5) pe_int (fun _ _ => rfl)))
  (pss_cons (ps_asg (pe_callB call_divmodW (by rfl) M.divmod_ (by decide +kernel) (pa_cons (pv 3) (pa_cons (pe_cal cStep_count hg hr (by rfl) (pa_cons (pv 6) pa_nil)) pa_nil))) (pg_tup rfl (pgs_cons (pg_name (i := 7) scLocate.nd rfl (.inl rfl)) (pgs_cons (pg_name (i := 3) scLocate.nd rfl (.inl rfl)) pgs_nil))))
  (pss_cons (ps_asg (pe_cal cPlace hg hr (by rfl) (pa_cons (pv 6) (pa_cons (pv 3) pa_nil))) (pg_tup rfl (pgs_cons (pg_name (i := 2) scLocate.nd rfl (.inl rfl)) (pgs_cons (pg_name (i := 3) scLocate.nd rfl (.inl rfl)) pgs_nil))))
  (pss_cons (ps_expr (pe_bm PySem.F.plainAttrs_list PySem.F.slot_list_extend PySem.F.type_list_extend mt_extend (pv 4) (pa_cons (pe_lst (pa_cons (pv 7) (pa_cons (pv 2) pa_nil))) pa_nil)))
  (pss_one (ps_set (i := 5) scLocate.nd rfl (.inl rfl) (pe_ix ix_tup (pv 6) (pv 2) (fun _ _ => rfl)))))))))
  (pss_one (ps_ret (pe_tup (pa_cons (pe_callTy call_tuple_of (by rfl) M.tuple_ (by decide +kernel) (pa_cons (pv 4) pa_nil)) (pa_cons (pv 5) pa_nil)))))))))), ?_⟩
  -- the step is one of the program
  refine ⟨_, rfl, _, rfl, v, b, rfl, hB, ok, fun H1 s1' => ?_⟩
  refine ⟨_, _, rfl, rfl, st, 0, lens b - 1, rfl, ?_⟩
  rw [decide_eq_true s0, decide_eq_true (show st ≤ lens b - 1 by omega)]
  refine ⟨_, rfl, iteF ?_⟩
  -- its place
  refine ⟨_, rfl, _, rfl, v, b, st, rfl, hB.kt (Kt.same s1'), ok, s0, s1, fun i t r p H2 ht r0 r1 er s2 hp => ?_⟩
  refine ⟨p, _, rfl, SqT.of hp, rfl, _, _, rfl, _, _, rfl, rfl, ?_⟩
  refine ⟨_, rfl, (by show 1 ≤ sizeLine; decide), fun pa npa => ?_⟩
  have s3 := same_new (o := .lst [V.int (i : Nat)]) npa
  have s13 : Same H _ := (s1'.trans s2).trans s3
  have nHpa : H pa = none := (s1'.trans s2).free npa
  obtain ⟨c, us, rfl, sq, tr⟩ := hB
  have ul := tr.length
  have il := (List.getElem?_eq_some_iff.mp ht).1
  obtain ⟨x, hx⟩ : ∃ x, us[i]? = some x := ⟨us[i]'(by omega), List.getElem?_eq_getElem (by omega)⟩
  obtain ⟨t', ht', hT⟩ := tr.get hx
  rw [ht] at ht'
  cases ht'
  refine ⟨_, rfl, _, rfl, c, us, (i : Nat), x, rfl, rfl, (Kt.same s13).sq sq, atI_nat hx, ?_⟩
  have pt0 : PT b [(i : Int)] t r st := by
    rw [er]
    exact .here ht
  refine ⟨fun m σ H' => ∃ (ps : List Int) (t : Tr) (x : V) (r : Int) (y2 y6 y7 : Option V), σ = [some (.ref c), some (.int st), y2, some (.int r), some (.ref pa), some x, y6, y7] ∧ Same H H' ∧ H' pa = some (.lst (ps.map V.int)) ∧ TrAt K H' t x ∧ PT b ps t r st ∧ 0 ≤ r ∧ r < t.len ∧ okB (m + 1) [t] ∧ m ≤ n ∧ ps.length + 2 * m ≤ 20,
    ⟨n, [(i : Int)], t, x, r, _, _, _, rfl, s13, upd_same, TrAt.kt (Kt.same s13) _ _ hT, pt0, r0, r1, ⟨by rw [wfs, wfs]; exact ⟨wfs_get ok.1 ht, trivial⟩, by show 1 ≤ 1000; decide⟩, Nat.le_refl _, by show 1 + 2 * n ≤ 20; omega⟩, ?_⟩
  rintro m σ H4 ⟨ps, t, x, r, y2, y6, y7, rfl, s4, h4, hT4, pt, r0, r1, okt, hm, hl⟩
  cases t with
  | op z as =>
    have hT0 := hT4
    rw [TrAt] at hT4
    obtain ⟨a, rfl, sq5⟩ := hT4
    refine ⟨_, rfl, a, _, 0, .str z, rfl, rfl, sq5, at0, rfl, _, rfl, iteN (fun e => okB_op (i := 0) okt rfl (V.str.inj e)) ?_⟩
    refine ⟨_, rfl, pa, _, rfl, .inl ⟨SqL.of h4, fun tp ntp => ?_⟩⟩
    have s5 := same_new (o := .tup (ps.map V.int)) ntp
    refine ⟨_, rfl, (by show 2 ≤ sizeLine; decide), fun p6 np6 => ?_⟩
    have s6 := same_new (o := .tup [V.ref tp, V.ref a]) np6
    rw [Tr.len] at r1
    have e0 : r = 0 := by omega
    subst e0
    exact q ps z as p6 tp (.ref a) _ ((s4.trans s5).trans s6) upd_same ((Kt.same s6).sq (SqT.of upd_same)) pt (TrAt.kt (Kt.same (s5.trans s6)) _ _ hT0) (by omega)
  | loop kk b' =>
    rw [TrAt] at hT4
    obtain ⟨a, g, ws, rfl, sq5, sq6, r2⟩ := hT4
    obtain ⟨c0, c1, ok2⟩ := okB_loop (i := 0) okt rfl
    obtain ⟨m', rfl⟩ : ∃ m', m = m' + 1 := by
      cases m with
      | zero => exact ok2.elim
      | succ m' => exact ⟨m', rfl⟩
    have ok3 : okB (n + 1) b' := okB_ups (by omega) ok2
    have hB' : BodyAt K H4 b' (.ref g) := ⟨g, ws, rfl, sq6, r2⟩
    rw [Tr.len] at r1
    have lp : 0 < lens b' := by
      have h0 := (lens_bd b' m' ok2.1).1
      by_cases z : lens b' = 0
      · rw [z, Int.mul_zero] at r1
        omega
      · omega
    have q0 := Int.emod_nonneg r (show lens b' ≠ 0 by omega)
    have q1 := Int.emod_lt_of_pos r lp
    have d0 : 0 ≤ r / lens b' := Int.ediv_nonneg r0 (by omega)
    have d1 : r / lens b' < kk := (Int.ediv_lt_iff_lt_mul lp).mpr r1
    refine ⟨_, rfl, a, _, 0, .str "loop", rfl, rfl, sq5, rfl, rfl, _, rfl, iteP rfl ?_⟩
    refine ⟨fun σ' H' => ∃ (ps : List Int) (t : Tr) (x : V) (r : Int) (y2 y6 y7 : Option V), σ' = [some (.ref c), some (.int st), y2, some (.int r), some (.ref pa), some x, y6, y7] ∧ Same H H' ∧ H' pa = some (.lst (ps.map V.int)) ∧ TrAt K H' t x ∧ PT b ps t r st ∧ 0 ≤ r ∧ r < t.len ∧ okB (m' + 1) [t] ∧ m' ≤ n ∧ ps.length + 2 * m' ≤ 20, fun σ' H' h => ⟨m', by omega, h⟩, ?_⟩
    refine ⟨_, rfl, a, _, 2, .ref g, rfl, rfl, sq5, rfl, ?_⟩
    refine ⟨_, rfl, _, rfl, _, b', rfl, hB', ok3, fun H5 s5 => ?_⟩
    refine ⟨r, lens b', rfl, div_ok (k := 1000) lp (lens_log ok2 (by omega)) (by decide) (by decide), fun p6 np6 => ?_⟩
    have s6 := same_new (o := .tup [.int (r / lens b'), .int (r % lens b')]) np6
    refine ⟨p6, _, rfl, SqT.of upd_same, rfl, _, _, rfl, _, _, rfl, rfl, ?_⟩
    have s56 := s5.trans s6
    refine ⟨_, rfl, _, rfl, _, b', r % lens b', rfl, hB'.kt (Kt.same s56), ok3, q0, q1, fun j t7 r7 p7 H7 ht7 r70 r71 er7 s7 hp7 => ?_⟩
    refine ⟨p7, _, rfl, SqT.of hp7, rfl, _, _, rfl, _, _, rfl, rfl, ?_⟩
    have s57 := s56.trans s7
    have h7 := s57 _ _ h4
    refine ⟨_, rfl, .inl ⟨rfl, _, SqL.of h7⟩, _, rfl, _, rfl, (by show 2 ≤ sizeLine; decide), fun l8 nl8 => ?_⟩
    have s8 := same_new (o := .lst [V.int (r / lens b'), V.int (j : Nat)]) nl8
    have h8 := s8 _ _ h7
    refine ⟨pa, l8, _, _, rfl, rfl, h8, upd_same, ?_, ?_⟩
    · rw [List.length_map]
      exact small (by show ps.length + 2 ≤ 1000; omega)
    have kt9 : Kt H4 (upd (upd H7 l8 (.lst [V.int (r / lens b'), V.int (j : Nat)])) pa (.lst (ps.map V.int ++ [V.int (r / lens b'), V.int (j : Nat)]))) := (Kt.same (s57.trans s8)).trans (Kt.but But.upd h8)
    have il7 := (List.getElem?_eq_some_iff.mp ht7).1
    have wl := r2.length
    obtain ⟨x7, hx7⟩ : ∃ x, ws[j]? = some x := ⟨ws[j]'(by omega), List.getElem?_eq_getElem (by omega)⟩
    obtain ⟨t7', ht7', hT7⟩ := r2.get hx7
    rw [ht7] at ht7'
    cases ht7'
    refine ⟨_, rfl, _, rfl, g, ws, (j : Nat), x7, rfl, rfl, kt9.sq sq6, atI_nat hx7, ?_⟩
    refine ⟨ps ++ [r / lens b', (j : Int)], t7, x7, r7, _, _, _, rfl, same_upd ((s4.trans s57).trans s8) nHpa, ?_, TrAt.kt kt9 _ _ hT7, pt.deeper rfl d0 d1 ht7 ?_, r70, r71, ⟨by rw [wfs, wfs]; exact ⟨wfs_get ok2.1 ht7, trivial⟩, by show 1 ≤ 1000; decide⟩, by omega, ?_⟩
    · rw [upd_same, List.map_append]
      rfl
    · have := Int.emod_def r (lens b')
      rw [← er7, this, Int.mul_comm (r / lens b')]
      omega
    · rw [List.length_append]
      show ps.length + 2 + 2 * m' ≤ 20
      omega
end
section
variable {P : Program} {w : World} {K : PySem.W.Frag} {mg : Str → Option Value} {base : Heap}
theorem ok_tup (M : Bl mg) (F : At K mg "_law_tuple" sTuple ["_law_urn_here", "_law_p", "_law_count"]) {k : Nat} (h1 : Has P w K mg base k "_law_of" ["_law_urn_here", "_law_items"] (spOf K)) (h2 : Has P w K mg base k "_law_take" ["_law_urn_here", "_law_below"] spTake) :
    Has P w K mg base (k + 1) "_law_tuple" ["_law_urn_here", "_law_p", "_law_count"] (spTupU K) := by
  obtain ⟨_, _, cOf⟩ := h1
  obtain ⟨_, _, cTake⟩ := h2
  refine Has.by F scTuple (fun vs H Q E h => ?_) (fun f cdv A out s H vs Q E hg hr h => ?_)
  · obtain ⟨_, _, _, rfl, _⟩ := h
    rfl
  obtain ⟨u, q, n, rfl, hU, q2, q7, hn, qq⟩ := h
  refine ⟨_, (pss_one (ps_ret (pe_callTy call_tuple_of (by rfl) M.tuple_ (by decide +kernel) (pa_cons (pe_lc (own := [("_law_turn", 3)]) (g := gName 3) (by rfl) scTuple.nd (pi_range1 (by rfl) M.range_ (pa_cons (pv 2) pa_nil)) (blkOk_by (own := [("_law_turn", 3)]) (N := ["_law_urn_here", "_law_p", "_law_count", "_law_turn"]) (sc := defScope sTuple) (by decide +kernel)) (fun _ _ _ _ _ => (pg_name (i := 3) scTuple.nd rfl (.inl rfl))) (fun _ _ _ _ _ => pts_nil) (fun _ _ _ _ _ => (pe_cal cOf hg hr (by rfl) (pa_cons (pv 0) (pa_cons (pe_lst (pa_cons pe_int (pa_cons pe_int (pa_cons (pe_op op_sub (pv 1) pe_int) (pa_cons (pe_cal cTake hg hr (by rfl) (pa_cons (pv 0) (pa_cons (pv 1) pa_nil))) (pa_cons (pe_cal cTake hg hr (by rfl) (pa_cons (pv 0) (pa_cons (pv 1) pa_nil))) pa_nil)))))) pa_nil))))) pa_nil)))), ?_⟩
  refine ⟨_, rfl, _, rfl, by omega, by omega, fun D nD => ?_⟩
  have nDu : D ≠ u := hU.ne nD
  refine lc_range (lo := 0) (n := n) (fun i H' => ∃ ns : List Int, H' D = some (.lst (ns.map V.int)) ∧ ns.length = i ∧ In q ns ∧ Urn H' u ∧ But u H H') ⟨[], upd_same, rfl, (fun a m => absurd m List.not_mem_nil), hU.same (same_new nD), But.new nD⟩ ?_ ?_
  · rintro i H1 hi ⟨ns, e1, e2, e3, e4, e5⟩
    refine ⟨rfl, _, rfl, _, rfl, _, _, rfl, rfl, ?_⟩
    refine ⟨_, rfl, _, rfl, u, q, rfl, e4, by omega, wide_big (by omega) (by omega), fun a H2 a0 a1 u2 b2 => ?_⟩
    refine ⟨_, rfl, _, rfl, u, q, rfl, u2, by omega, wide_big (by omega) (by omega), fun b H3 b0 b1 u3 b3 => ?_⟩
    refine ⟨(by show 5 ≤ sizeLine; decide), fun l nl => ?_⟩
    have sl := same_new (o := .lst (([0, 1, q - 1, a, b] : List Int).map V.int)) nl
    have e1' := (b3 _ _ nDu (b2 _ _ nDu e1))
    have nlD : D ≠ l := ne_of_none e1' nl
    refine ⟨u, l, ([0, 1, q - 1, a, b] : List Int).map V.int, rfl, u3.same sl, u3.ne nl, SqL.of upd_same, List.cons_ne_nil _ _, (by show 5 ≤ 1000; decide), fun x H4 mx u4 b4 => ?_⟩
    obtain ⟨z, mz, rfl⟩ := List.mem_map.mp mx
    have zb : 0 ≤ z ∧ z < q := by
      simp only [List.mem_cons, List.not_mem_nil, or_false] at mz
      omega
    have e1'' := b4 _ _ nDu (sl _ _ e1')
    refine ⟨_, e1'', ?_, ns ++ [z], ?_, by rw [List.length_append, e2]; rfl, fun y my => ?_, u4.but (q := D) But.upd nDu.symm, fun y o ne ho => ?_⟩
    · rw [List.length_map, e2, sizeLine_eq]
      omega
    · rw [upd_same, List.map_append]
      rfl
    · rcases List.mem_append.mp my with my | my
      · exact e3 y my
      · rw [List.mem_singleton.mp my]
        exact zb
    · rw [upd_ne (ne_of_none ho nD)]
      exact b4 _ _ ne (sl _ _ (b3 _ _ ne (b2 _ _ ne (e5 _ _ ne ho))))
  · rintro H1 ⟨ns, e1, e2, e3, e4, e5⟩
    refine ⟨D, _, rfl, .inl ⟨SqL.of e1, fun t nt => ?_⟩⟩
    have st := same_new (o := .tup (ns.map V.int)) nt
    exact qq ns _ t e2 e3 (SqT.of upd_same) (e4.same st) (e5.trans (But.same st))
end
end K16
set_option Elab.async false
set_option linter.all false
set_option maxRecDepth 100000
set_option pp.maxSteps 500
set_option pp.deepTerms.threshold 8
set_option pp.deepTerms false
namespace K16
open PySem PySem.Spec PyProof.Rows L2 Lj
theorem wfs_app : ∀ {b c : List Tr} {n : Nat}, wfs b n → wfs c n → wfs (b ++ c) n
  | [], _, _, _, k => k
  | t :: r, c, n, h, k => by
    rw [wfs] at h
    show wfs (t :: (r ++ c)) n
    rw [wfs]
    exact ⟨h.1, wfs_app h.2 k⟩
theorem fines_app : ∀ {b c : List Tr}, fines b → fines c → fines (b ++ c)
  | [], _, _, k => k
  | t :: r, c, h, k => by
    rw [fines] at h
    show fines (t :: (r ++ c))
    rw [fines]
    exact ⟨h.1, fines_app h.2 k⟩
theorem args_app : ∀ {b c : List Tr}, haveArgs b → haveArgs c → haveArgs (b ++ c)
  | [], _, _, k => k
  | t :: r, c, h, k => by
    rw [haveArgs] at h
    show haveArgs (t :: (r ++ c))
    rw [haveArgs]
    exact ⟨h.1, args_app h.2 k⟩
theorem args_one {t : Tr} (h : t.hasArgs) : haveArgs [t] := by
  rw [haveArgs, haveArgs]
  exact ⟨h, trivial⟩
theorem exs_app (b c : List Tr) : exs (b ++ c) = exs b ++ exs c := by rw [exs_map, List.map_append, List.flatten_append, ← exs_map, ← exs_map]
theorem exs_loop (k : Int) (b : List Tr) : exs [.loop k b] = (List.replicate k.toNat (exs b)).flatten := by rw [exs, exs, List.append_nil, Tr.ex]
theorem exs_rep (b : List Tr) : ∀ n : Nat, exs (List.replicate n b).flatten = (List.replicate n (exs b)).flatten
  | 0 => by simp [exs]
  | n + 1 => by rw [List.replicate_succ, List.flatten_cons, exs_app, exs_rep b n, List.replicate_succ, List.flatten_cons]
theorem wfs_rep {b : List Tr} {k : Nat} (h : wfs b k) : ∀ n : Nat, wfs (List.replicate n b).flatten k
  | 0 => by rw [List.replicate_zero, List.flatten_nil, wfs]; trivial
  | n + 1 => by rw [List.replicate_succ, List.flatten_cons]; exact wfs_app h (wfs_rep h n)
theorem args_rep {b : List Tr} (h : haveArgs b) : ∀ n : Nat, haveArgs (List.replicate n b).flatten
  | 0 => by rw [List.replicate_zero, List.flatten_nil, haveArgs]; trivial
  | n + 1 => by rw [List.replicate_succ, List.flatten_cons]; exact args_app h (args_rep h n)
theorem fines_rep {b : List Tr} (h : fines b) : ∀ n : Nat, fines (List.replicate n b).flatten
  | 0 => by rw [List.replicate_zero, List.flatten_nil, fines]; trivial
  | n + 1 => by rw [List.replicate_succ, List.flatten_cons]; exact fines_app h (fines_rep h n)
theorem mades_get {G : Str → List Int → Prop} {R : Int → Prop} {l d : Nat} : ∀ {b : List Tr} {i : Nat} {t : Tr}, mades G R b l d → b[i]? = some t → t.made G R l d
  | [], _, _, _, e => by simp at e
  | t :: r, 0, u, h, e => by
    cases e
    rw [mades] at h
    exact h.1
  | t :: r, i + 1, u, h, e => by
    rw [mades] at h
    exact mades_get (i := i) h.2 e
/-- c executes what b does -/
structure SplF (b c : List Tr) (e m : Nat) : Prop where
  ex : exs c = exs b
  wf : wfs c e
  ln : c.length ≤ b.length * m
  ag : haveArgs c
  fn : fines b → fines c
def spSplit (K : PySem.W.Frag) (d : Nat) : Sp := fun vs H Q _ => ∃ (u : Addr) (v : V) (b : List Tr) (G : Str → List Int → Prop) (R : Int → Prop) (l e : Nat), vs = [.ref u, v] ∧ Urn H u ∧ BodyAt K H b v ∧ mades G R b l e ∧ (∀ w as, G w as → w ∈ W7 ∧ as ≠ []) ∧ (∀ k, R k → 0 ≤ k ∧ k ≤ 10 ^ 18) ∧ l ≤ 6 ∧ b.length ≤ l ∧ e < d ∧
  ∀ c v' H', SplF b c e (l + 1) → BodyAt K H' c v' → Urn H' u → But u H H' → Q v' H'
section
variable {P : Program} {w : World} {K : PySem.W.Frag} {mg : Str → Option Value} {base : Heap}
theorem ok_split1 (M : Bl mg) (F : At K mg "_law_split" sSplit ["_law_urn_here", "_law_program"]) {d k : Nat} (h : Has P w K mg base k "_law_split" ["_law_urn_here", "_law_program"] (spSplit K d)) (h2 : Has P w K mg base k "_law_take" ["_law_urn_here", "_law_below"] spTake) : Has P w K mg base (k + 1) "_law_split" ["_law_urn_here", "_law_program"] (spSplit K (d + 1)) := by
  obtain ⟨_, _, cSplit⟩ := h
  obtain ⟨_, _, cTake⟩ := h2
  refine Has.by F scSplit (fun vs H Q E h => ?_) (fun f cdv A out s H vs Q E hg hr h => ?_)
  · obtain ⟨_, _, _, _, _, _, _, rfl, _⟩ := h
    rfl
  obtain ⟨u, v, b, G, R, l, e, rfl, hU, ⟨c, us, rfl, sq, r⟩, mad, hG, hR, l6, bl, ed, q⟩ := h
  refine ⟨_, (pss_cons (ps_set (i := 2) scSplit.nd rfl (.inl rfl) (pe_lst pa_nil))
  (pss_cons (ps_for PassesOwn.never rfl (pi_tup (pv 1)) (pg_name (i := 3) scSplit.nd rfl (.inl rfl))
    (pss_one (ps_if (pt_cmpR op_eq (pe_ix ix_tup (pv 3) pe_int (fun _ _ => rfl)) pe_str (nomark _))
    (pss_cons (ps_par (i := 4) (j := 5) (by rfl) scSplit.nd rfl rfl (by decide) rfl rfl (pa_cons (pe_callB (call_min2 rfl) (by rfl) M.min_ (by decide +kernel) (pa_cons (pe_ix ix_tup (pv 3) pe_int (fun _ _ => rfl)) (pa_cons (pe_cal cTake hg hr (by rfl) (pa_cons (pv 0) (pa_cons pe_int pa_nil))) pa_nil))) (pa_cons (pe_cal cSplit hg hr (by rfl) (pa_cons (pv 0) (pa_cons (pe_ix ix_tup (pv 3) pe_int (fun _ _ => rfl)) pa_nil))) pa_nil)) (by rfl))
  (pss_cons (ps_for PassesOwn.never rfl (pi_range1 (by rfl) M.range_ (pa_cons (pv 4) pa_nil)) (pg_name (i := 6) scSplit.nd rfl (.inl rfl))
    (pss_one (ps_expr (pe_bm PySem.F.plainAttrs_list PySem.F.slot_list_extend PySem.F.type_list_extend mt_extendT (pv 2) (pa_cons (pe_ix ix_tup (pv 3) pe_int (fun _ _ => rfl)) pa_nil)))))
  (pss_one (ps_expr (pe_bm PySem.F.plainAttrs_list PySem.F.slot_list_append PySem.F.type_list_append mt_append (pv 2) (pa_cons (pe_tup (pa_cons pe_str (pa_cons (pe_op op_sub (pe_ix ix_tup (pv 3) pe_int (fun _ _ => rfl)) (pv 4)) (pa_cons (pv 5) pa_nil)))) pa_nil))))))
    (pss_one (ps_expr (pe_bm PySem.F.plainAttrs_list PySem.F.slot_list_append PySem.F.type_list_append mt_append (pv 2) (pa_cons (pv 3) pa_nil)))))))
  (pss_one (ps_ret (pe_callTy call_tuple_of (by rfl) M.tuple_ (by decide +kernel) (pa_cons (pv 2) pa_nil)))))), ?_⟩
  refine ⟨Nat.zero_le _, fun fo nfo => ?_⟩
  have nfu : fo ≠ u := hU.ne nfo
  refine ⟨_, rfl, c, rfl, ⟨_, (Kt.same (same_new nfo)).sq sq⟩, ?_⟩
  refine for_tup (xs := us) (fun i σ H' => ∃ y3 y4 y5 y6 cs zs, σ = [some (.ref u), some (.ref c), some (.ref fo), y3, y4, y5, y6] ∧ Urn H' u ∧ But u H H' ∧ H' fo = some (.lst zs) ∧ TrsAt K H' cs zs ∧ exs cs = exs (b.take i) ∧ wfs cs e ∧ cs.length ≤ i * (l + 1) ∧ haveArgs cs ∧ (fines b → fines cs))
    ⟨none, none, none, none, [], [], rfl, hU.same (same_new nfo), But.new nfo, upd_same, TrsAt.nil, rfl, by rw [wfs]; trivial, by show 0 ≤ 0 * (l + 1); omega, by rw [haveArgs]; trivial, fun _ => by rw [fines]; trivial⟩ ?_ ?_ ?_
  · rintro i σ H' _ ⟨_, _, _, _, _, _, _, hu, hb, _⟩
    exact (hU.kt hb).sq sq
  · rintro i x σ H2 hx ⟨y3, y4, y5, y6, cs, zs, rfl, u2, b2, h2, t2, x2, w2, l2, a2, f2⟩
    obtain ⟨t, ht, hT⟩ := r.get hx
    have hT := TrAt.kt (hU.kt b2) t x hT
    have mt := mades_get mad ht
    have il := (List.getElem?_eq_some_iff.mp ht).1
    have zl := t2.length
    have li : i * (l + 1) ≤ 5 * 7 := Nat.mul_le_mul (by omega) (by omega)
    have xn : exs (b.take (i + 1)) = exs (b.take i) ++ t.ex := flat_takeL ht
    have ft := fun h : fines b => fines_get h ht
    cases t with
    | op z as =>
      have hT0 := hT
      rw [TrAt] at hT
      obtain ⟨a, rfl, sq3⟩ := hT
      rw [Tr.made] at mt
      refine ⟨_, rfl, a, _, 0, .str z, rfl, rfl, sq3, at0, rfl, _, rfl, iteN (fun e => W7_noloop (hG z as mt).1 (V.str.inj e)) ?_⟩
      refine ⟨_, rfl, .inl ⟨rfl, _, SqL.of h2⟩, _, rfl, fo, _, _, rfl, rfl, h2, small1000 (by omega), ?_⟩
      have kt : Kt H2 (upd H2 fo (.lst (zs ++ [.ref a]))) := Kt.but But.upd h2
      refine ⟨_, _, _, _, cs ++ [.op z as], _, rfl, u2.but (q := fo) But.upd nfu.symm, fun y o ne ho => ?_, upd_same, (TrsAt.kt kt _ _ t2).append (TrsAt.one (TrAt.kt kt _ _ hT0)), ?_, wfs_app w2 ?_, ?_, args_app a2 (args_one ?_), fun h => fines_app (f2 h) ?_⟩
      · rw [upd_ne (ne_of_none ho nfo)]
        exact b2 _ _ ne ho
      · rw [exs_app, x2, xn, exs, exs, List.append_nil]
      · rw [wfs, wfs, Tr.wf]
        exact ⟨W7_noloop (hG z as mt).1, trivial⟩
      · rw [List.length_append, Nat.succ_mul]
        show cs.length + 1 ≤ _
        omega
      · rw [Tr.hasArgs]
        exact (hG z as mt).2
      · rw [fines, fines]
        exact ⟨ft h, trivial⟩
    | loop m b' =>
      cases e with
      | zero => rw [Tr.made] at mt; exact mt.elim
      | succ e =>
      rw [Tr.made] at mt
      obtain ⟨mk, ml, mb⟩ := mt
      obtain ⟨c0, c1⟩ := hR m mk
      rw [TrAt] at hT
      obtain ⟨a, g, ws, rfl, sq3, sq4, r2⟩ := hT
      refine ⟨_, rfl, a, _, 0, .str "loop", rfl, rfl, sq3, rfl, rfl, _, rfl, iteP rfl ?_⟩
      refine ⟨_, rfl, a, _, 1, .int m, rfl, rfl, sq3, rfl, _, rfl, u, 3, rfl, u2, by decide, wide_big (by decide) (by decide), fun j0 H3 j00 j01 u3 b3 => ⟨m, j0, rfl, ?_⟩⟩
      have k3 := u2.kt b3
      refine ⟨_, rfl, _, rfl, a, _, 2, .ref g, rfl, rfl, k3.sq sq3, rfl, u, _, b', G, R, l / 2, e, rfl, u3, ⟨g, ws, rfl, k3.sq sq4, TrsAt.kt k3 _ _ r2⟩, mb, hG, hR, by omega, ml, by omega, fun c' v' H4 sp hB4 u4 b4 => ⟨_, _, rfl, ?_⟩⟩
      have k4 := k3.trans (u3.kt b4)
      obtain ⟨J, hJ, J2, Jm⟩ : ∃ J : Nat, (if j0 < m then j0 else m) = (J : Int) ∧ J ≤ 2 ∧ (J : Int) ≤ m := ⟨(if j0 < m then j0 else m).toNat, by split <;> omega, by split <;> omega, by split <;> omega⟩
      have h4 := b4 _ _ nfu (b3 _ _ nfu h2)
      have t4 := TrsAt.kt k4 _ _ t2
      have sq34 := k4.sq sq3
      have sq44 := k4.sq sq4
      have r24 := TrsAt.kt k4 _ _ r2
      have rl := r24.length
      have b24 := (b2.trans b3).trans b4
      refine ⟨_, rfl, (J : Int), ?_, by omega, by omega, ?_⟩
      · show [V.int (if j0 < m then j0 else m)] = _
        rw [hJ]
      rw [show ((J : Int)).toNat = J from rfl]
      refine for_range (lo := 0) (n := J) (fun j σ H' => ∃ y6, σ = [some (.ref u), some (.ref c), some (.ref fo), some (.ref a), some (.int (if j0 < m then j0 else m)), some v', y6] ∧ Urn H' u ∧ But u H H' ∧ Kt H4 H' ∧ H' fo = some (.lst (zs ++ (List.replicate j ws).flatten))) ⟨_, rfl, u4, b24, Kt.refl _, by rw [List.replicate_zero, List.flatten_nil, List.append_nil]; exact h4⟩ ?_ ?_
      · rintro j σ H5 hj ⟨y6, rfl, u5, b5, k5, h5⟩
        refine ⟨_, rfl, .inl ⟨rfl, _, SqL.of h5⟩, _, rfl, a, _, 2, .ref g, rfl, rfl, k5.sq sq34, rfl, fo, g, _, ws, rfl, rfl, h5, k5.sq sq44, ?_, ?_⟩
        · rw [List.length_append, flat_len, zl, rl, sizeLine_eq]
          have : j * b'.length ≤ 2 * 3 := Nat.mul_le_mul (by omega) (by omega)
          omega
        · have kt := Kt.but (H' := upd H5 fo (.lst ((zs ++ (List.replicate j ws).flatten) ++ ws))) But.upd h5
          refine ⟨_, rfl, u5.but (q := fo) But.upd nfu.symm, fun y o ne ho => ?_, k5.trans kt, ?_⟩
          · rw [upd_ne (ne_of_none ho nfo)]
            exact b5 _ _ ne ho
          · rw [upd_same, rep_succ, List.append_assoc]
      · rintro σ H5 ⟨y6, rfl, u5, b5, k5, h5⟩
        obtain ⟨c4, vs4, rfl, sq5, r5⟩ := hB4
        have tot : (zs ++ (List.replicate J ws).flatten).length ≤ 41 := by
          rw [List.length_append, flat_len, zl, rl]
          have : J * b'.length ≤ 2 * 3 := Nat.mul_le_mul (by omega) (by omega)
          omega
        refine ⟨_, rfl, .inl ⟨rfl, _, SqL.of h5⟩, _, rfl, a, _, 1, .int m, rfl, rfl, k5.sq sq34, rfl, _, rfl, _, _, rfl, rfl, _, rfl, (by show 3 ≤ sizeLine; decide), fun t nt => ?_⟩
        have st := same_new (o := .tup [.str "loop", .int (m - (if j0 < m then j0 else m)), .ref c4]) nt
        refine ⟨fo, _, _, rfl, rfl, st _ _ h5, small1000 (by omega), ?_⟩
        have kt : Kt (upd H5 t (.tup [.str "loop", .int (m - (if j0 < m then j0 else m)), .ref c4])) (upd (upd H5 t (.tup [.str "loop", .int (m - (if j0 < m then j0 else m)), .ref c4])) fo (.lst ((zs ++ (List.replicate J ws).flatten) ++ [.ref t]))) := Kt.but But.upd (st _ _ h5)
        have kt5 := (Kt.same st).trans kt
        have kt4 := k5.trans kt5
        refine ⟨_, _, _, _, (cs ++ (List.replicate J b').flatten) ++ [.loop (m - J) c'], _, rfl, (u5.same st).but (q := fo) But.upd nfu.symm, fun y o ne ho => ?_, upd_same, ((TrsAt.kt kt4 _ _ t4).append (trs_flat (TrsAt.kt kt4 _ _ r24) J)).append (TrsAt.one ?_), ?_, wfs_app (wfs_app w2 (wfs_rep (wfs_up (mades_wf (fun w as h => (hG w as h).1) hR b' (l / 2) e (by omega) mb)) J)) ?_, ?_, args_app (args_app a2 (args_rep (mades_args (fun w as h => (hG w as h).2) b' (l / 2) e mb) J)) (args_one ?_), fun h => ?_⟩
        · rw [upd_ne (ne_of_none ho nfo)]
          exact st _ _ (b5 _ _ ne ho)
        · rw [TrAt]
          refine ⟨t, c4, vs4, rfl, ?_, kt4.sq sq5, TrsAt.kt kt4 _ _ r5⟩
          have := kt.sq (SqT.of (K := K) (upd_same (H := H5) (a := t) (o := .tup [.str "loop", .int (m - (if j0 < m then j0 else m)), .ref c4])))
          rw [hJ] at this ⊢
          exact this
        · rw [exs_app, exs_app, x2, exs_rep, exs_loop, sp.ex, xn, Tr.ex, List.append_assoc, ← List.flatten_append, List.replicate_append_replicate]
          congr 3
          omega
        · have sl := sp.ln
          have : b'.length * (l / 2 + 1) ≤ 3 * 4 := Nat.mul_le_mul (by omega) (by omega)
          rw [wfs, wfs, Tr.wf]
          exact ⟨⟨by omega, by omega, by omega, sp.wf⟩, trivial⟩
        · rw [List.length_append, List.length_append, flat_len, Nat.succ_mul]
          have : J * b'.length ≤ 2 * (l / 2) := Nat.mul_le_mul (by omega) ml
          show cs.length + J * b'.length + 1 ≤ _
          omega
        · rw [Tr.hasArgs]
          exact sp.ag
        · have ff := ft h
          rw [Tr.fine] at ff
          refine fines_app (fines_app (f2 h) (fines_rep ff.2 J)) ?_
          rw [fines, fines, Tr.fine, sp.ex]
          exact ⟨⟨ff.1, sp.fn ff.2⟩, trivial⟩
  · rintro σ H2 ⟨y3, y4, y5, y6, cs, zs, rfl, u2, b2, h2, t2, x2, w2, l2, a2, f2⟩
    rw [r.length, take_all] at x2
    refine ⟨_, rfl, fo, zs, rfl, .inl ⟨SqL.of h2, fun t nt => ?_⟩⟩
    have st := same_new (o := .tup zs) nt
    exact q cs (.ref t) _ ⟨x2, w2, by rw [r.length] at l2; exact l2, a2, f2⟩ ⟨t, zs, rfl, SqT.of upd_same, TrsAt.kt (Kt.same st) _ _ t2⟩ (u2.same st) (b2.trans (But.same st))
theorem ok_split (M : Bl mg) (F : At K mg "_law_split" sSplit ["_law_urn_here", "_law_program"]) {k : Nat} (h2 : Has P w K mg base k "_law_take" ["_law_urn_here", "_law_below"] spTake) : ∀ d, Has P w K mg base (k + d) "_law_split" ["_law_urn_here", "_law_program"] (spSplit K d)
  | 0 => Has.none F fun vs H Q E ⟨_, _, _, _, _, _, _, _, _, _, _, _, _, _, _, h, _⟩ => absurd h (Nat.not_lt_zero _)
  | d + 1 => ok_split1 M F (ok_split M F h2 d) (h2.up (Nat.le_add_right _ _))
/-! ### the law's own size: some number -/
def spSz (K : PySem.W.Frag) (d : Nat) : Sp := fun vs H Q _ => ∃ (v : V) (b : List Tr), vs = [v] ∧ BodyAt K H b v ∧ okB d b ∧ ∀ (m : Int) H', Same H H' → Q (.int m) H'
theorem ok_size1 (M : Bl mg) (F : At K mg "_law_size" sSize ["_law_program"]) {d k : Nat} (h : Has P w K mg base k "_law_size" ["_law_program"] (spSz K d)) : Has P w K mg base (k + 1) "_law_size" ["_law_program"] (spSz K (d + 1)) := by
  obtain ⟨_, _, cSize⟩ := h
  refine Has.by F scSize (fun vs H Q E h => ?_) (fun f cdv A out s H vs Q E hg hr h => ?_)
  · obtain ⟨_, _, rfl, _⟩ := h
    rfl
  obtain ⟨v, b, rfl, ⟨c, us, rfl, sq, r⟩, ok, q⟩ := h
  refine ⟨_, (pss_one (ps_ret (pe_callB (cr_sum rfl) (by rfl) M.sum_ (by decide +kernel) (pa_cons (pe_lc (own := [("_law_item_here", 1)]) (g := gName 1) (by rfl) scSize.nd (pi_tup (pv 0)) (blkOk_by (own := [("_law_item_here", 1)]) (N := ["_law_program", "_law_item_here"]) (sc := defScope sSize) (by decide +kernel)) (fun _ _ _ _ _ => (pg_name (i := 1) scSize.nd rfl (.inl rfl))) (fun _ _ _ _ _ => pts_nil) (fun _ _ _ _ _ => (pe_ifExp (pt_cmpR op_eq (pe_ix (ix_tupK (K := K) rfl) (pv 1) pe_int (fun _ _ => rfl)) pe_str (nomark _)) (pe_op op_add pe_int (pe_cal cSize hg hr (by rfl) (pa_cons (pe_ix (ix_tupK (K := K) rfl) (pv 1) pe_int (fun _ _ => rfl)) pa_nil))) pe_int))) pa_nil)))), ?_⟩
  refine ⟨_, rfl, c, rfl, ⟨_, sq⟩, fun D nD => ?_⟩
  refine lc_tup (xs := us) (fun i H' => ∃ ns : List Int, H' D = some (.lst (ns.map V.int)) ∧ ns.length = i ∧ Same H H') ⟨[], upd_same, rfl, same_new nD⟩ (fun i H' _ ⟨_, _, _, h⟩ => (Kt.same h).sq sq) ?_ ?_
  · rintro i x H2 hx ⟨ns, e1, e2, e3⟩
    obtain ⟨t, ht, hT⟩ := r.get hx
    have hT := TrAt.kt (Kt.same e3) t x hT
    have il := (List.getElem?_eq_some_iff.mp ht).1
    have bl := ok.2
    have sz : (ns.map V.int).length < sizeLine := by
      rw [List.length_map, e2]
      exact small1000 (by omega)
    refine ⟨rfl, ?_⟩
    cases t with
    | op z as =>
      rw [TrAt] at hT
      obtain ⟨a, rfl, sq3⟩ := hT
      refine ⟨_, rfl, a, _, 0, .str z, rfl, rfl, sq3, at0, rfl, _, rfl, iteN (fun e => okB_op ok ht (V.str.inj e)) ?_⟩
      exact ⟨_, e1, sz, ns ++ [1], by rw [upd_same, List.map_append]; rfl, by rw [List.length_append, e2]; rfl, same_upd e3 nD⟩
    | loop m b' =>
      rw [TrAt] at hT
      obtain ⟨a, g, ws, rfl, sq3, sq4, r2⟩ := hT
      obtain ⟨c0, c1, ok2⟩ := okB_loop ok ht
      refine ⟨_, rfl, a, _, 0, .str "loop", rfl, rfl, sq3, rfl, rfl, _, rfl, iteP rfl ?_⟩
      refine ⟨_, rfl, a, _, 2, .ref g, rfl, rfl, sq3, rfl, _, b', rfl, ⟨g, ws, rfl, sq4, r2⟩, ok2, fun m' H3 s3 => ⟨1, m', rfl, rfl, ?_⟩⟩
      exact ⟨_, s3 _ _ e1, sz, ns ++ [1 + m'], by rw [upd_same, List.map_append]; rfl, by rw [List.length_append, e2]; rfl, same_upd (e3.trans s3) nD⟩
  · rintro H2 ⟨ns, e1, e2, e3⟩
    exact ⟨D, _, rfl, SqL.of e1, q _ H2 e3⟩
theorem ok_size (M : Bl mg) (F : At K mg "_law_size" sSize ["_law_program"]) : ∀ d, Has P w K mg base d "_law_size" ["_law_program"] (spSz K d)
  | 0 => Has.none F fun vs H Q E ⟨_, _, _, _, h, _⟩ => h
  | d + 1 => ok_size1 M F (ok_size M F d)
end
end K16
set_option Elab.async false
set_option linter.all false
set_option maxRecDepth 100000
set_option pp.maxSteps 500
set_option pp.deepTerms.threshold 8
set_option pp.deepTerms false
namespace K16
open PySem PySem.Spec PyProof.Rows L2 Lj
theorem neE {A B : Prop} {x y : V} (h : x = y) (b : B) : if (!decide (x = y)) = true then A else B := by
  rw [decide_eq_true h]
  exact b
theorem skipD {A B : Prop} {d e : PyData} (h : d = e) (s : SeqAt.shaped d = true) (b : B) : if (!PyData.eqv d e) = true then A else B := by
  subst h
  rw [SeqAt.eqv_refl d (SeqAt.canLay_of_shaped s)]
  exact b
theorem shaped_op {z : Str} (as : List Int) (h : z ∈ W7) : SeqAt.shaped (Tr.datT (.op z as)) = true := by
  unfold SeqAt.shaped
  rw [Tr.datT, PyData.canLay0, PyData.canLayAll0, PyData.canLay0, W7_ok h, lay_ints, PyData.depth, PyData.depthAll, PyData.depth, depth_ints]
  rfl
section
variable {P : Program} {w : World} {K : PySem.W.Frag} {mg : Str → Option Value} {base : Heap}
/-- drawn programs, as both parts of the law take them -/
def Dn (p n : Int) (b : List Tr) : Prop := b.length ≤ 5 ∧ mades (GoodOp p n) (fun k => 0 ≤ k ∧ k ≤ 10 ^ 18) b 5 3
def spGr (K : PySem.W.Frag) : Sp := fun vs H Q _ => ∃ (u : Addr) (v : V) (b : List Tr) (p n : Int), vs = [.ref u, v, .int n] ∧ Urn H u ∧ BodyAt K H b v ∧ Dn p n b ∧ 1 ≤ n ∧ n ≤ 8 ∧ ∀ H', Urn H' u → But u H H' → Q (.bl true) H'
theorem good_hG {p n : Int} : ∀ (z : Str) (as : List Int), GoodOp p n z as → z ∈ W7 ∧ as ≠ [] := fun z as h => ⟨h.w7, h.args⟩
theorem dn_ok {p n : Int} {b : List Tr} (h : Dn p n b) : okB 4 b ∧ haveArgs b ∧ allGs (GoodOp p n) b := ⟨⟨mades_wf (fun z as h => h.w7) (fun k h => h) b 5 3 (by decide) h.2, by have := h.1; omega⟩, mades_args (fun z as h => h.args) b 5 3 h.2, mades_allG b 5 3 h.2⟩
theorem spl_ok {b c : List Tr} (h : SplF b c 3 6) (bl : b.length ≤ 5) : okB 4 c := ⟨h.wf, by have := h.ln; omega⟩
theorem spl_num {b c : List Tr} (h : SplF b c 3 6) (ok : okB 4 b) : lens c = lens b ∧ ∀ z, cnts z c = cnts z b := by
  refine ⟨?_, fun z => ?_⟩
  · rw [← exs_len c 3 h.wf, ← exs_len b 3 ok.1, h.ex]
  · rw [← exs_cnt z c 3 h.wf, ← exs_cnt z b 3 ok.1, h.ex]
theorem pt_at {b : List Tr} {ps : List Int} {z : Str} {as : List Int} {st : Int} (pt : PT b ps (.op z as) 0 st) (h : wfs b 3) : (exs b)[st.toNat]? = some (.op z as) := by
  obtain ⟨_, _, e⟩ := pt.step h (Int.le_refl 0) (by rw [Tr.len]; decide)
  rw [e, Tr.ex]
  rfl
set_option maxHeartbeats 8000000 in
theorem ok_great (M : Bl mg) (F : At K mg "_law_great_right" sGreat_right ["_law_urn_here", "_law_program", "_law_n"]) {k : Nat}
    (h1 : Has P w K mg base k "_law_split" ["_law_urn_here", "_law_program"] (spSplit K 4)) (h2 : Has P w K mg base k "_law_take" ["_law_urn_here", "_law_below"] spTake) (h3 : Has P w K mg base k "_law_of" ["_law_urn_here", "_law_items"] (spOf K)) (h4 : Has P w K mg base k "_law_steps" ["_law_program"] (spTI K (okB 4) lens)) (h5 : Has P w K mg base k "_law_size" ["_law_program"] (spSz K 4))
    (h6 : Has P w K mg base k "step_count" ["program"] (spTI K (okB 4) lens)) (h7 : Has P w K mg base k "read_count" ["program"] (spTI K (okB 4) (cnts "read"))) (h8 : Has P w K mg base k "write_count" ["program"] (spTI K (okB 4) (cnts "write")))
    (h9 : Has P w K mg base k "locate" ["program", "step"] (spLoc K 3)) (h10 : Has P w K mg base k "reads_before" ["program", "moment"] (spRB K 4)) (h11 : Has P w K mg base k "last_assignment" ["program", "moment", "x"] (spLA K 4)) : Has P w K mg base (k + 1) "_law_great_right" ["_law_urn_here", "_law_program", "_law_n"] (spGr K) := by
  obtain ⟨_, _, cSplit⟩ := h1
  obtain ⟨_, _, cTake⟩ := h2
  obtain ⟨_, _, cOf⟩ := h3
  obtain ⟨_, _, cSteps⟩ := h4
  obtain ⟨_, _, cSize⟩ := h5
  obtain ⟨_, _, cStep_count⟩ := h6
  obtain ⟨_, _, cRead_count⟩ := h7
  obtain ⟨_, _, cWrite_count⟩ := h8
  obtain ⟨_, _, cLocate⟩ := h9
  obtain ⟨_, _, cReads_before⟩ := h10
  obtain ⟨_, _, cLast_assignment⟩ := h11
  refine Has.by F scGreat_right (fun vs H Q E h => ?_) (fun f cdv A out s H vs Q E hg hr h => ?_)
  · obtain ⟨_, _, _, _, _, rfl, _⟩ := h
    rfl
  obtain ⟨u, v, b, p, n, rfl, hU, hB, dn, n1, n8, q⟩ := h
  obtain ⟨okb, agb, alb⟩ := dn_ok dn
  refine ⟨_, (pss_cons (ps_set (i := 3) scGreat_right.nd rfl (.inl rfl) (pe_cal cSplit hg hr (by rfl) (pa_cons (pv 0) (pa_cons (pv 1) pa_nil))))
  (pss_cons (ps_set (i := 4) scGreat_right.nd rfl (.inl rfl) (pe_cal cSteps hg hr (by rfl) (pa_cons (pv 1) pa_nil)))
  (pss_cons (ps_if (pt_cmpR op_gt (pe_cal cSize hg hr (by rfl) (pa_cons (pv 3) pa_nil)) pe_int (nomark _))
    (pss_one (ps_ret pe_bl))
    pss_nil)
  (pss_cons (ps_set (i := 5) scGreat_right.nd rfl (.inl rfl) (pe_lst (pa_cons (pe_cal cStep_count hg hr (by rfl) (pa_cons (pv 1) pa_nil)) (pa_cons (pe_cal cRead_count hg hr (by rfl) (pa_cons (pv 1) pa_nil)) (pa_cons (pe_cal cWrite_count hg hr (by rfl) (pa_cons (pv 1) pa_nil)) pa_nil)))))
  (pss_cons (ps_if (PW.pt (pw_or (pt_cmpR (op_neD hr.units) (pv 5) (pe_lst (pa_cons (pe_cal cStep_count hg hr (by rfl) (pa_cons (pv 3) pa_nil)) (pa_cons (pe_cal cRead_count hg hr (by rfl) (pa_cons (pv 3) pa_nil)) (pa_cons (pe_cal cWrite_count hg hr (by rfl) (pa_cons (pv 3) pa_nil)) pa_nil)))) (nomark _)) (pw_or1 (pt_cmpR op_ne (pe_ix ix_list (pv 5) pe_int (fun _ _ => rfl)) (pv 4) (nomark _)))))
    (pss_one (ps_ret pe_bl))
    pss_nil)
  (pss_cons (ps_for PassesOwn.never rfl (pi_range1 (by rfl) M.range_ (pa_cons (pe_op op_mul pe_int (pe_callTy call_int1 (by rfl) M.int_ (by decide +kernel) (pa_cons (pe_cmpR op_gt (pv 4) pe_int (nomark _)) pa_nil))) pa_nil)) (pg_name (i := 6) scGreat_right.nd rfl (.inl rfl))
    (pss_cons (ps_set (i := 7) scGreat_right.nd rfl (.inl rfl) (pe_cal cOf hg hr (by rfl) (pa_cons (pv 0) (pa_cons (pe_lst (pa_cons (pe_op op_mod (pv 6) (pv 4)) (pa_cons (pe_op op_sub (pv 4) pe_int) (pa_cons (pe_cal cTake hg hr (by rfl) (pa_cons (pv 0) (pa_cons (pv 4) pa_nil))) pa_nil)))) pa_nil))))
  (pss_cons (ps_set (i := 8) scGreat_right.nd rfl (.inl rfl) (pe_cal cTake hg hr (by rfl) (pa_cons (pv 0) (pa_cons (pv 2) pa_nil))))
  (pss_cons (ps_if (pt_cmpR (op_neD hr.units) (pe_ix ix_tup (pe_cal cLocate hg hr (by rfl) (pa_cons (pv 1) (pa_cons (pv 7) pa_nil))) pe_int (fun _ _ => rfl)) (pe_ix ix_tup (pe_cal cLocate hg hr (by rfl) (pa_cons (pv 3) (pa_cons (pv 7) pa_nil))) pe_int (fun _ _ => rfl)) (nomark _))
    (pss_one (ps_ret pe_bl))
    pss_nil)
  (pss_cons (ps_if (pt_cmpR op_ne (pe_cal cReads_before hg hr (by rfl) (pa_cons (pv 1) (pa_cons (pv 7) pa_nil))) (pe_cal cReads_before hg hr (by rfl) (pa_cons (pv 3) (pa_cons (pv 7) pa_nil))) (nomark _))
    (pss_one (ps_ret pe_bl))
    pss_nil)
  (pss_one (ps_if (pt_cmpR op_ne (pe_cal cLast_assignment hg hr (by rfl) (pa_cons (pv 1) (pa_cons (pe_op op_add (pv 7) pe_int) (pa_cons (pv 8) pa_nil)))) (pe_cal cLast_assignment hg hr (by rfl) (pa_cons (pv 3) (pa_cons (pe_op op_add (pv 7) pe_int) (pa_cons (pv 8) pa_nil)))) (nomark _))
    (pss_one (ps_ret pe_bl))
    pss_nil)))))))
  (pss_one (ps_ret pe_bl)))))))), ?_⟩
  refine ⟨_, rfl, _, rfl, u, v, b, _, _, 5, 3, rfl, hU, hB, dn.2, good_hG, (fun k h => h), by decide, dn.1, by decide, fun c v' H1 sp hC u1 b1 => ?_⟩
  have okc := spl_ok sp dn.1
  obtain ⟨lc, cc⟩ := spl_num sp okb
  have hB := hB.kt (hU.kt b1)
  refine ⟨_, rfl, v, b, rfl, hB, okb, fun H2 s2 => ?_⟩
  refine ⟨_, rfl, v', c, rfl, hC.kt (Kt.same s2), okc, fun m3 H3 s3 => ⟨_, _, rfl, rfl, _, rfl, ite2 (fun _ => ?_) (fun _ => ?_)⟩⟩
  · exact q _ ((u1.same s2).same s3) (b1.trans (But.same (s2.trans s3)))
  have s23 := s2.trans s3
  have hB := hB.kt (Kt.same s23)
  have hC := hC.kt (Kt.same s23)
  have u3 := u1.same s23
  have b3 := b1.trans (But.same s23)
  clear s2 s3 s23
  -- counts
  refine ⟨_, rfl, v, b, rfl, hB, okb, fun H4 s4 => ?_⟩
  refine ⟨_, rfl, v, b, rfl, hB.kt (Kt.same s4), okb, fun H5 s5 => ?_⟩
  refine ⟨_, rfl, v, b, rfl, hB.kt (Kt.same (s4.trans s5)), okb, fun H6 s6 => ?_⟩
  refine ⟨(by show 3 ≤ sizeLine; decide), fun l7 nl7 => ?_⟩
  have s7 := same_new (o := .lst (([lens b, cnts "read" b, cnts "write" b] : List Int).map V.int)) nl7
  have s37 := ((s4.trans s5).trans s6).trans s7
  have hl7 : (upd H6 l7 (.lst (([lens b, cnts "read" b, cnts "write" b] : List Int).map V.int))) l7 = some (.lst (([lens b, cnts "read" b, cnts "write" b] : List Int).map V.int)) := upd_same
  have hB := hB.kt (Kt.same s37)
  have hC := hC.kt (Kt.same s37)
  have u7 := u3.same s37
  have b7 := b3.trans (But.same s37)
  refine ⟨_, rfl, _, rfl, v', c, rfl, hC, okc, fun H8 s8 => ?_⟩
  refine ⟨_, rfl, v', c, rfl, hC.kt (Kt.same s8), okc, fun H9 s9 => ?_⟩
  refine ⟨_, rfl, v', c, rfl, hC.kt (Kt.same (s8.trans s9)), okc, fun H10 s10 => ?_⟩
  rw [lc, cc, cc]
  refine ⟨(by show 3 ≤ sizeLine; decide), fun l11 nl11 => ?_⟩
  have s11 := same_new (o := .lst (([lens b, cnts "read" b, cnts "write" b] : List Int).map V.int)) nl11
  have s711 := ((s8.trans s9).trans s10).trans s11
  refine ⟨.list (([lens b, cnts "read" b, cnts "write" b] : List Int).map PyData.int), .list (([lens b, cnts "read" b, cnts "write" b] : List Int).map PyData.int), dp_int_list (SqL.of (s711 _ _ hl7)), dp_int_list (SqL.of upd_same), shaped_ints _, shaped_ints _, _, rfl, skipD rfl (shaped_ints _) ?_⟩
  refine ⟨_, rfl, l7, _, 0, _, rfl, rfl, SqL.of (s711 _ _ hl7), rfl, _, rfl, rfl, _, rfl, neE rfl ?_⟩
  have hB := hB.kt (Kt.same s711)
  have hC := hC.kt (Kt.same s711)
  have u11 := u7.same s711
  have b11 := b7.trans (But.same s711)
  -- steps
  refine ⟨_, rfl, _, _, rfl, rfl, .inr ⟨_, rfl, 10, _, rfl, rfl, .inl ⟨by decide, by decide⟩, ?_⟩⟩
  obtain ⟨N, hN, N10, Npos⟩ : ∃ N : Nat, 10 * (if decide (0 < lens b) = true then 1 else 0) = (N : Int) ∧ N ≤ 10 ∧ (0 < N → 0 < lens b) := by
    by_cases z : 0 < lens b
    · exact ⟨10, by rw [decide_eq_true z]; rfl, by decide, fun _ => z⟩
    · exact ⟨0, by rw [decide_eq_false z]; rfl, by decide, fun h => absurd h (by decide)⟩
  refine ⟨(N : Int), ?_, by omega, by omega, ?_⟩
  · show [V.int (10 * (if decide (0 < lens b) = true then 1 else 0))] = _
    rw [hN]
  rw [show ((N : Int)).toNat = N from rfl]
  refine for_range (lo := 0) (n := N) (fun i σ H' => ∃ y6 y7 y8, σ = [some (.ref u), some v, some (.int n), some v', some (.int (lens b)), some (.ref l7), y6, y7, y8] ∧ Urn H' u ∧ But u H H' ∧ BodyAt K H' b v ∧ BodyAt K H' c v') ⟨_, _, _, rfl, u11, b11, hB, hC⟩ ?_ ?_
  · rintro i σ H12 hi ⟨y6, y7, y8, rfl, u12, b12, hB12, hC12⟩
    have tp := Npos (by omega)
    have lw : (lens b).natAbs < wide := lens_log okb (by decide)
    have m0 : 0 ≤ (0 + ((i : Nat) : Int)) % lens b := Int.emod_nonneg _ (by omega)
    have m1 : (0 + ((i : Nat) : Int)) % lens b < lens b := Int.emod_lt_of_pos _ tp
    refine ⟨_, rfl, _, rfl, _, rfl, _, _, rfl, rfl, tp, _, rfl, _, _, rfl, rfl, _, rfl, _, rfl, u, lens b, rfl, u12, tp, lw, fun d H13 d0 d1 u13 b13 => ?_⟩
    refine ⟨(by show 3 ≤ sizeLine; decide), fun l14 nl14 => ?_⟩
    have s14 := same_new (o := .lst (([(0 + ((i : Nat) : Int)) % lens b, lens b - 1, d] : List Int).map V.int)) nl14
    refine ⟨u, l14, ([(0 + ((i : Nat) : Int)) % lens b, lens b - 1, d] : List Int).map V.int, rfl, u13.same s14, u13.ne nl14, SqL.of upd_same, List.cons_ne_nil _ _, (by show 3 ≤ 1000; decide), fun x H15 mx u15 b15 => ?_⟩
    obtain ⟨st, mst, rfl⟩ := List.mem_map.mp mx
    have stb : 0 ≤ st ∧ st < lens b := by
      simp only [List.mem_cons, List.not_mem_nil, or_false] at mst
      rcases mst with rfl | rfl | rfl <;> omega
    refine ⟨_, rfl, _, rfl, u, n, rfl, u15, by omega, wide_big (by omega) (by omega), fun xx H16 x0 x1 u16 b16 => ?_⟩
    have k16 := (((u12.kt b13).trans (Kt.same s14)).trans ((u13.same s14).kt b15)).trans (u15.kt b16)
    have b16' := (((b12.trans b13).trans (But.same s14)).trans b15).trans b16
    have hB := hB12.kt k16
    have hC := hC12.kt k16
    clear k16 b12 b13 b15 b16 mx
    -- located
    refine ⟨_, rfl, _, rfl, v, b, st, rfl, hB, okb, stb.1, stb.2, fun ps z as pp pa v1 H17 s17 hp17 hpa17 pt17 tr17 pl17 => ?_⟩
    refine ⟨pp, _, 1, v1, rfl, rfl, SqT.of hp17, rfl, ?_⟩
    refine ⟨_, rfl, _, rfl, v', c, st, rfl, hC.kt (Kt.same s17), okc, stb.1, by rw [lc]; exact stb.2, fun ps2 z2 as2 pp2 pa2 v2 H18 s18 hp18 hpa18 pt18 tr18 pl18 => ?_⟩
    refine ⟨pp2, _, 1, v2, rfl, rfl, SqT.of hp18, rfl, ?_⟩
    have e1 := pt_at pt17 okb.1
    have e2 := pt_at pt18 okc.1
    rw [sp.ex, e1] at e2
    have e3 : Tr.op z as = .op z2 as2 := Option.some.inj e2
    have w7 : z ∈ W7 := by
      have := pt17.good alb
      rw [Tr.allG] at this
      exact this.w7
    refine ⟨_, _, Tr.dp _ _ (TrAt.kt (Kt.same s18) _ _ tr17), Tr.dp _ _ tr18, shaped_op as w7, by rw [← e3]; exact shaped_op as w7, _, rfl, skipD (by rw [e3]) (shaped_op as w7) ?_⟩
    have s19 := s17.trans s18
    -- reads
    refine ⟨_, rfl, _, rfl, v, b, st, rfl, hB.kt (Kt.same s19), okb, stb.1, fun H20 s20 => ?_⟩
    refine ⟨_, rfl, _, rfl, v', c, st, rfl, hC.kt (Kt.same (s19.trans s20)), okc, stb.1, fun H21 s21 => ?_⟩
    refine ⟨rfl, _, rfl, neE (by rw [sp.ex]) ?_⟩
    have s22 := (s19.trans s20).trans s21
    -- last assignments
    refine ⟨_, rfl, _, rfl, _, _, rfl, rfl, _, rfl, v, b, st + 1, xx, rfl, hB.kt (Kt.same s22), okb, agb, by omega, fun H23 s23 => ?_⟩
    refine ⟨_, rfl, _, rfl, _, _, rfl, rfl, _, rfl, v', c, st + 1, xx, rfl, hC.kt (Kt.same (s22.trans s23)), okc, sp.ag, by omega, fun H24 s24 => ?_⟩
    have s25 := (s22.trans s23).trans s24
    rw [sp.ex]
    have fin : ∃ y6 y7 y8, ([some (V.ref u), some v, some (.int n), some v', some (.int (lens b)), some (.ref l7), some (.int (0 + ((i : Nat) : Int))), some (.int st), some (.int xx)] : List (Option V)) = [some (.ref u), some v, some (.int n), some v', some (.int (lens b)), some (.ref l7), y6, y7, y8] ∧ Urn H24 u ∧ But u H H24 ∧ BodyAt K H24 b v ∧ BodyAt K H24 c v' := ⟨_, _, _, rfl, u16.same s25, b16'.trans (But.same s25), hB.kt (Kt.same s25), hC.kt (Kt.same s25)⟩
    cases la xx ((exs b).take (st + 1).toNat) with
    | none => exact ⟨rfl, _, rfl, neE rfl fin⟩
    | some j => exact ⟨rfl, _, rfl, neE rfl fin⟩
  · rintro σ H12 ⟨y6, y7, y8, rfl, u12, b12, _, _⟩
    exact q H12 u12 b12
def spRR (K : PySem.W.Frag) : Sp := fun vs H Q _ => ∃ (u : Addr) (v : V) (b : List Tr) (p n : Int), vs = [.ref u, .int p, .int n, v] ∧ Urn H u ∧ BodyAt K H b v ∧ Dn p n b ∧ fines b ∧ (exs b).length ≤ 200 ∧ 2 ≤ p ∧ p ≤ 10007 ∧ 1 ≤ n ∧ n ≤ 8 ∧ ∀ H', Urn H' u → But u H H' → Q (.bl true) H'
set_option maxHeartbeats 8000000 in
theorem ok_rr (M : Bl mg) (F : At K mg "_law_run_right" sRun_right ["_law_urn_here", "_law_p", "_law_n", "_law_program"]) {k : Nat}
    (h1 : Has P w K mg base k "_law_split" ["_law_urn_here", "_law_program"] (spSplit K 4)) (h2 : Has P w K mg base k "_law_executed" ["_law_program"] (spExec K 4)) (h3 : Has P w K mg base k "_law_tuple" ["_law_urn_here", "_law_p", "_law_count"] (spTupU K)) (h5 : Has P w K mg base k "_law_size" ["_law_program"] (spSz K 4))
    (h6 : Has P w K mg base k "run" ["p", "program", "registers", "inputs"] (spRun K 4)) : Has P w K mg base (k + 1) "_law_run_right" ["_law_urn_here", "_law_p", "_law_n", "_law_program"] (spRR K) := by
  obtain ⟨_, _, cSplit⟩ := h1
  obtain ⟨_, _, cExecuted⟩ := h2
  obtain ⟨_, _, cTuple⟩ := h3
  obtain ⟨_, _, cSize⟩ := h5
  obtain ⟨_, _, cRun⟩ := h6
  refine Has.by F scRun_right (fun vs H Q E h => ?_) (fun f cdv A out s H vs Q E hg hr h => ?_)
  · obtain ⟨_, _, _, _, _, rfl, _⟩ := h
    rfl
  obtain ⟨u, v, b, p, n, rfl, hU, hB, dn, fin, big, p0, p1, n1, n8, q⟩ := h
  obtain ⟨okb, agb, alb⟩ := dn_ok dn
  have gd : Goods p n (exs b) := fun t m => mades_ops b 5 3 dn.2 t m
  obtain ⟨N, eN⟩ : ∃ N : Nat, n = (N : Int) := ⟨n.toNat, by omega⟩
  subst eN
  refine ⟨_, (pss_cons (ps_set (i := 4) scRun_right.nd rfl (.inl rfl) (pe_cal cSplit hg hr (by rfl) (pa_cons (pv 0) (pa_cons (pv 3) pa_nil))))
  (pss_cons (ps_set (i := 5) scRun_right.nd rfl (.inl rfl) (pe_callB call_len_seq (by rfl) M.len_ (by decide +kernel) (pa_cons (pe_lc (own := [("_law_item_here", 8)]) (g := gName 8) (by rfl) scRun_right.nd (pi_list (pe_cal cExecuted hg hr (by rfl) (pa_cons (pv 3) pa_nil))) (blkOk_by (own := [("_law_item_here", 8)]) (N := ["_law_urn_here", "_law_p", "_law_n", "_law_program", "_law_other", "_law_count", "_law_registers_here", "_law_fed", "_law_item_here"]) (sc := defScope sRun_right) (by decide +kernel)) (fun _ _ _ _ _ => (pg_name (i := 8) scRun_right.nd rfl (.inl rfl))) (fun _ _ _ _ _ => (pts_one (pt_cmpR op_eq (pe_ix (ix_tupK (K := K) rfl) (pv 8) pe_int (fun _ _ => rfl)) pe_str (nomark _)))) (fun _ _ _ _ _ => (pv 8))) pa_nil)))
  (pss_cons (ps_par (i := 6) (j := 7) (by rfl) scRun_right.nd rfl rfl (by decide) rfl rfl (pa_cons (pe_cal cTuple hg hr (by rfl) (pa_cons (pv 0) (pa_cons (pv 1) (pa_cons (pv 2) pa_nil)))) (pa_cons (pe_cal cTuple hg hr (by rfl) (pa_cons (pv 0) (pa_cons (pv 1) (pa_cons (pv 5) pa_nil)))) pa_nil)) (by rfl))
  (pss_cons (ps_if (pt_cmpR op_gt (pe_cal cSize hg hr (by rfl) (pa_cons (pv 4) pa_nil)) pe_int (nomark _))
    (pss_one (ps_ret pe_bl))
    pss_nil)
  (pss_one (ps_ret (pe_cmpR (op_eqD hr.units) (pe_cal cRun hg hr (by rfl) (pa_cons (pv 1) (pa_cons (pv 3) (pa_cons (pv 6) (pa_cons (pv 7) pa_nil))))) (pe_cal cRun hg hr (by rfl) (pa_cons (pv 1) (pa_cons (pv 4) (pa_cons (pv 6) (pa_cons (pv 7) pa_nil))))) (nomark _)))))))), ?_⟩
  refine ⟨_, rfl, _, rfl, u, v, b, _, _, 5, 3, rfl, hU, hB, dn.2, good_hG, (fun k h => h), by decide, dn.1, by decide, fun c v' H1 sp hC u1 b1 => ?_⟩
  have okc := spl_ok sp dn.1
  have hB := hB.kt (hU.kt b1)
  -- how many reads
  refine ⟨_, rfl, v, b, rfl, hB, okb, fin, by omega, fun H7 l7 us s7 n7 h7 t7 => ?_⟩
  refine ⟨l7, rfl, ⟨_, SqL.of h7⟩, fun D nD => ?_⟩
  refine lc_list (xs := us) (fun i H' => ∃ acc : List V, H' D = some (.lst acc) ∧ (acc.length : Int) = rc ((exs b).take i) ∧ Same H7 H') ⟨[], upd_same, rfl, same_new nD⟩ (fun i H' _ ⟨_, _, _, h⟩ => SqL.of (h _ _ h7)) ?_ ?_
  · rintro i x H8 hx ⟨acc, e1, e2, e3⟩
    obtain ⟨t, ht, hT⟩ := t7.get hx
    obtain ⟨z, as, rfl, go⟩ := gd t (List.mem_of_getElem? ht)
    have hT := TrAt.kt (Kt.same e3) _ _ hT
    rw [TrAt] at hT
    obtain ⟨a, rfl, sq⟩ := hT
    have rn : rc ((exs b).take (i + 1)) = rc ((exs b).take i) + rc [.op z as] := by
      rw [List.take_add_one, ht, rc_append]
      rfl
    refine ⟨rfl, _, rfl, a, _, 0, .str z, rfl, rfl, sq, at0, rfl, _, rfl, ?_⟩
    by_cases c : z = "read"
    · subst c
      refine iteP rfl ⟨_, rfl, acc, e1, ?_, acc ++ [.ref a], upd_same, ?_, same_upd e3 nD⟩
      · have h1 := rc_le ((exs b).take i)
        rw [List.length_take] at h1
        exact small1000 (by omega)
      · rw [rn, List.length_append]
        have : rc [.op "read" as] = 1 := rfl
        rw [this, ← e2]
        rfl
    · refine iteN (fun e => c (V.str.inj e)) ⟨acc, e1, ?_, e3⟩
      have : rc [.op z as] = 0 := by
        show ((([z].count ("read" : Str) : Nat)) : Int) = 0
        rw [List.count_eq_zero_of_not_mem (fun m => c (List.mem_singleton.mp m).symm)]
        rfl
      rw [rn, this, Int.add_zero]
      exact e2
  rintro H8 ⟨acc, e81, e82, e83⟩
  rw [t7.length, List.take_length] at e82
  refine ⟨D, acc, rfl, .inl (SqL.of e81), ?_⟩
  have u8 : Urn H8 u := (u1.same s7).same e83
  have b8 : But u H H8 := b1.trans (But.same (s7.trans e83))
  have hB8 := hB.kt (Kt.same (s7.trans e83))
  have hC8 := hC.kt (Kt.same (s7.trans e83))
  have c200 : acc.length ≤ 200 := by
    have := rc_le (exs b)
    omega
  refine ⟨_, rfl, _, rfl, _, rfl, u, p, N, rfl, u8, p0, p1, by omega, fun ns H9 t1 l1 i1 q1 u9 b9 => ?_⟩
  refine ⟨_, rfl, _, rfl, _, rfl, u, p, acc.length, rfl, u9, p0, p1, by omega, fun is H10 t2 l2 i2 q2 u10 b10 => ⟨_, _, rfl, ?_⟩⟩
  have k10 := (u8.kt b9).trans (u9.kt b10)
  have hB10 := hB8.kt k10
  have hC10 := hC8.kt k10
  have q1 := (u9.kt b10).sq q1
  refine ⟨_, rfl, v', c, rfl, hC10, okc, fun m3 H11 s11 => ⟨_, _, rfl, rfl, _, rfl, ite2 (fun _ => ?_) (fun _ => ?_)⟩⟩
  · exact q _ (u10.same s11) (((b8.trans b9).trans b10).trans (But.same s11))
  refine ⟨_, rfl, _, rfl, _, rfl, _, rfl, p, N, v, b, t1, t2, ns, is, rfl, hB10.kt (Kt.same s11), okb, fin, by omega, gd, p0, p1, n8, (Kt.same s11).sq q1, by omega, (Kt.same s11).sq q2, by omega, fun H12 t r1 r2 s12 nt ht hr1 hr2 => ?_⟩
  have s22 := s11.trans s12
  refine ⟨_, rfl, _, rfl, _, rfl, _, rfl, p, N, v', c, t1, t2, ns, is, rfl, hC10.kt (Kt.same s22), okc, sp.fn fin, by rw [sp.ex]; omega, by rw [sp.ex]; exact gd, p0, p1, n8, (Kt.same s22).sq q1, by omega, (Kt.same s22).sq q2, by rw [sp.ex]; omega, fun H13 t' r1' r2' s13 nt' ht' hr1' hr2' => ?_⟩
  rw [sp.ex] at hr1' hr2'
  have hA : HistAt K H13 (.ref t) (res p (exs b) (ns, is)) := ⟨t, r1, r2, rfl, SqT.of (s13 _ _ ht), SqT.of (s13 _ _ hr1), SqT.of (s13 _ _ hr2)⟩
  have hA' : HistAt K H13 (.ref t') (res p (exs b) (ns, is)) := ⟨t', r1', r2', rfl, SqT.of ht', SqT.of hr1', SqT.of hr2'⟩
  refine ⟨_, _, hA.dp, hA'.dp, shaped_pair _, shaped_pair _, ?_⟩
  rw [SeqAt.eqv_refl _ (SeqAt.canLay_of_shaped (shaped_pair _))]
  have s23 := s22.trans s13
  exact q _ (u10.same s23) (((b8.trans b9).trans b10).trans (But.same s23))
end
end K16
set_option Elab.async false
set_option linter.all false
set_option maxRecDepth 100000
set_option pp.maxSteps 500
set_option pp.deepTerms.threshold 8
set_option pp.deepTerms false
namespace K16
open PySem PySem.Spec PyProof.Rows L2 Lj
mutual
theorem Tr.made_imp2 {G G' : Str → List Int → Prop} {R R' : Int → Prop} (h : ∀ w as, G w as → G' w as) (hR : ∀ k, R k → R' k) : ∀ (t : Tr) (l d : Nat), t.made G R l d → t.made G' R' l d
  | .op w as, l, d, k => by
    rw [Tr.made] at k ⊢
    exact h w as k
  | .loop k b, l, 0, z => by rw [Tr.made] at z; exact z.elim
  | .loop k b, l, d + 1, z => by
    rw [Tr.made] at z ⊢
    exact ⟨hR _ z.1, z.2.1, mades_imp2 h hR b (l / 2) d z.2.2⟩
theorem mades_imp2 {G G' : Str → List Int → Prop} {R R' : Int → Prop} (h : ∀ w as, G w as → G' w as) (hR : ∀ k, R k → R' k) : ∀ (b : List Tr) (l d : Nat), mades G R b l d → mades G' R' b l d
  | [], _, _, _ => mades_nil
  | t :: r, l, d, k => by
    rw [mades] at k ⊢
    exact ⟨Tr.made_imp2 h hR t l d k.1, mades_imp2 h hR r l d k.2⟩
end
def R4 : List Int := [0, 1, 2, 3, 4]
theorem R4_bd : ∀ k ∈ R4, 0 ≤ k ∧ k ≤ ((4 : Nat) : Int) := by decide
theorem m453 : max 1 5 * mostR 4 3 5 ≤ 200 := by decide
def WG : List Str := ["set", "copy", "add", "scale", "swap"]
theorem WG_in : ∀ x ∈ WG, x ∈ W7 := by
  have z : (WG.all fun x => W7.contains x) = true := by decide
  intro x m
  exact List.contains_iff_mem.mp (List.all_eq_true.mp z x m)
section
variable {P : Program} {w : World} {K : PySem.W.Frag} {mg : Str → Option Value} {base : Heap}
def spLaw (K : PySem.W.Frag) : Sp := fun vs H Q _ => ∃ (a : Addr) (ns : List Int), vs = [.ref a] ∧ SqL K H a (ns.map V.int) ∧ ns.length ≤ 63 ∧ ∀ H', Q (.bl true) H'
set_option maxHeartbeats 8000000 in
theorem ok_law (M : Bl mg) (F : At K mg "law" sLaw ["_law_script"]) {k : Nat}
    (h1 : Has P w K mg base k "_law_urn" ["_law_script", "_law_k"] (spUrn K)) (h2 : Has P w K mg base k "_law_take" ["_law_urn_here", "_law_below"] spTake) (h3 : Has P w K mg base k "_law_prime" ["_law_urn_here"] spPrimeU) (h4 : Has P w K mg base k "_law_words" [] spWords)
    (h5 : Has P w K mg base k "_law_body" ["_law_urn_here", "_law_p", "_law_n", "_law_words_here", "_law_length", "_law_deep", "_law_rounds"] (spBody K 4)) (h6 : Has P w K mg base k "_law_run_right" ["_law_urn_here", "_law_p", "_law_n", "_law_program"] (spRR K)) (h7 : Has P w K mg base k "_law_great_right" ["_law_urn_here", "_law_program", "_law_n"] (spGr K)) : Has P w K mg base (k + 1) "law" ["_law_script"] (spLaw K) := by
  obtain ⟨_, _, cUrn⟩ := h1
  obtain ⟨_, _, cTake⟩ := h2
  obtain ⟨_, _, cPrime⟩ := h3
  obtain ⟨_, _, cWords⟩ := h4
  obtain ⟨_, _, cBody⟩ := h5
  obtain ⟨_, _, cRun_right⟩ := h6
  obtain ⟨_, _, cGreat_right⟩ := h7
  refine Has.by F scLaw (fun vs H Q E h => ?_) (fun f cdv A out s H vs Q E hg hr h => ?_)
  · obtain ⟨a, ns, rfl, _⟩ := h
    rfl
  obtain ⟨a, ns, rfl, hS, hl, q⟩ := h
  refine ⟨_, (pss_cons (ps_for PassesOwn.never rfl (pi_range1 (by rfl) M.range_ (pa_cons (pe_callB (call_max2 rfl) (by rfl) M.max_ (by decide +kernel) (pa_cons pe_int (pa_cons (pe_callB (call_min2 rfl) (by rfl) M.min_ (by decide +kernel) (pa_cons pe_int (pa_cons (pe_callB call_len_seq (by rfl) M.len_ (by decide +kernel) (pa_cons (pv 0) pa_nil)) pa_nil))) pa_nil))) pa_nil)) (pg_name (i := 1) scLaw.nd rfl (.inl rfl))
    (pss_cons (ps_set (i := 2) scLaw.nd rfl (.inl rfl) (pe_cal cUrn hg hr (by rfl) (pa_cons (pv 0) (pa_cons (pv 1) pa_nil))))
  (pss_cons (ps_par (i := 3) (j := 4) (by rfl) scLaw.nd rfl rfl (by decide) rfl rfl (pa_cons (pe_cal cPrime hg hr (by rfl) (pa_cons (pv 2) pa_nil)) (pa_cons (pe_op op_add pe_int (pe_cal cTake hg hr (by rfl) (pa_cons (pv 2) (pa_cons pe_int pa_nil)))) pa_nil)) (by rfl))
  (pss_one (ps_for PassesOwn.never rfl (pi_range1 (by rfl) M.range_ (pa_cons pe_int pa_nil)) (pg_name (i := 5) scLaw.nd rfl (.inl rfl))
    (pss_cons (ps_set (i := 6) scLaw.nd rfl (.inl rfl) (pe_cal cBody hg hr (by rfl) (pa_cons (pv 2) (pa_cons (pv 3) (pa_cons (pv 4) (pa_cons (pe_cal0 cWords hg hr (by rfl)) (pa_cons pe_int (pa_cons pe_int (pa_cons (pe_lst (pa_cons pe_int (pa_cons pe_int (pa_cons pe_int (pa_cons pe_int (pa_cons pe_int pa_nil)))))) pa_nil)))))))))
  (pss_cons (ps_set (i := 7) scLaw.nd rfl (.inl rfl) (pe_lst (pa_cons pe_str (pa_cons pe_str (pa_cons pe_str (pa_cons pe_str (pa_cons pe_str pa_nil)))))))
  (pss_cons (ps_set (i := 8) scLaw.nd rfl (.inl rfl) (pe_cal cBody hg hr (by rfl) (pa_cons (pv 2) (pa_cons (pv 3) (pa_cons (pv 4) (pa_cons (pv 7) (pa_cons pe_int (pa_cons pe_int (pa_cons (pe_lst (pa_cons pe_int (pa_cons pe_int (pa_cons pe_int (pa_cons (pe_op op_pow pe_int pe_int) (pa_cons (pe_op op_add pe_int (pe_cal cTake hg hr (by rfl) (pa_cons (pv 2) (pa_cons (pe_op op_pow pe_int pe_int) pa_nil)))) pa_nil)))))) pa_nil)))))))))
  (pss_cons (ps_if (PW.pt (pw_or (pt_not (pt_val (pe_cal cRun_right hg hr (by rfl) (pa_cons (pv 2) (pa_cons (pv 3) (pa_cons (pv 4) (pa_cons (pv 6) pa_nil))))))) (pw_or1 (pt_not (pt_val (pe_cal cGreat_right hg hr (by rfl) (pa_cons (pv 2) (pa_cons (pv 6) (pa_cons (pv 4) pa_nil)))))))))
    (pss_one (ps_ret pe_bl))
    pss_nil)
  (pss_one (ps_if (pt_not (pt_val (pe_cal cGreat_right hg hr (by rfl) (pa_cons (pv 2) (pa_cons (pv 8) (pa_cons (pv 4) pa_nil))))))
    (pss_one (ps_ret pe_bl))
    pss_nil)))))))))))
  (pss_one (ps_ret pe_bl))), ?_⟩
  have hlen : (ns.map V.int).length = ns.length := List.length_map _
  refine ⟨_, rfl, a, _, rfl, .inl hS, 3, _, rfl, 1, _, rfl, ?_⟩
  rw [hlen]
  obtain ⟨m, hm, hm3⟩ : ∃ m : Nat, (if (if (ns.length : Int) < 3 then (ns.length : Int) else 3) > 1 then (if (ns.length : Int) < 3 then (ns.length : Int) else 3) else 1) = (m : Int) ∧ m ≤ 3 := by
    refine ⟨(if (if (ns.length : Int) < 3 then (ns.length : Int) else 3) > 1 then (if (ns.length : Int) < 3 then (ns.length : Int) else 3) else 1).toNat, ?_, ?_⟩
    · split <;> split <;> omega
    · split <;> split <;> omega
  refine ⟨_, rfl, ?_, ?_, ?_⟩
  · rw [hm]; omega
  · rw [hm]; omega
  rw [hm]
  refine for_range (lo := 0) (n := m) (fun i σ H' => ∃ y1 y2 y3 y4 y5 y6 y7 y8, σ = [some (.ref a), y1, y2, y3, y4, y5, y6, y7, y8] ∧ Same H H') ⟨_, _, _, _, _, _, _, _, rfl, Same.refl _⟩ ?_ ?_
  · rintro i σ H1 hi ⟨y1, y2, y3, y4, y5, y6, y7, y8, rfl, sm⟩
    refine ⟨_, rfl, _, rfl, a, ns, _, rfl, sm.seq hS, by omega, by omega, fun H2 u s2 nu hU => ?_⟩
    have nHu : H u = none := sm.free nu
    have sA : Same H H2 := sm.trans s2
    refine ⟨_, rfl, u, rfl, hU, fun p H3 hp u3 b3 => ?_⟩
    obtain ⟨p0, p1⟩ := prs_bd hp
    refine ⟨_, rfl, u, 8, rfl, u3, by decide, wide_big (by decide) (by decide), fun n0 H4 n00 n01 u4 b4 => ⟨1, n0, rfl, rfl, _, _, rfl, ?_⟩⟩
    have sB : Same H H4 := same_but (same_but sA nHu b3) nHu b4
    refine ⟨3, rfl, by decide, by decide, ?_⟩
    refine for_range (lo := 0) (n := 3) (fun j σ H' => ∃ y5 y6 y7 y8, σ = [some (.ref a), some (.int (0 + (i : Nat))), some (.ref u), some (.int p), some (.int (1 + n0)), y5, y6, y7, y8] ∧ Same H H' ∧ Urn H' u) ⟨_, _, _, _, rfl, sB, u4⟩ ?_ ?_
    · rintro j σ H5 hj ⟨y5, y6, y7, y8, rfl, s5, u5⟩
      -- small
      refine ⟨_, rfl, _, rfl, _, rfl, rfl, fun ws nws => ?_⟩
      have s6 := same_new (o := .lst (W9.map V.str)) nws
      have u6 := u5.same s6
      refine ⟨(by show 5 ≤ sizeLine; decide), fun rs nrs => ?_⟩
      have s7 := same_new (o := .lst (R4.map V.int)) nrs
      have u7 := u6.same s7
      refine ⟨u, ws, rs, p, 1 + n0, W9, R4, 5, 3, rfl, u7, p0, p1, by omega, by omega, u5.ne nws, SqL.of (s7 _ _ upd_same), (by intro z; cases z), (by decide), W9_in, u6.ne nrs, SqL.of upd_same, (by intro z; cases z), (by decide), (by decide), (by decide), fun b v H8 bl mad hB u8 b8 => ?_⟩
      have sC : Same H H8 := same_but ((s5.trans s6).trans s7) nHu b8
      have hG : ∀ (z : Str) (as : List Int), (GoodOp p (1 + n0) z as ∧ (z ∈ W9 ∨ z = "set")) → z ∈ W7 := fun z as h => h.1.w7
      have dn : Dn p (1 + n0) b := ⟨bl, mades_imp2 (fun z as h => h.1) (fun k h => ⟨(R4_bd k h).1, by have := (R4_bd k h).2; omega⟩) b 5 3 mad⟩
      have big : (exs b).length ≤ 200 := by
        have h1 := mades_exR (r := 4) R4_bd b 5 3 mad
        have h2 : b.length * mostR 4 3 5 ≤ max 1 5 * mostR 4 3 5 := Nat.mul_le_mul_right _ (by omega)
        have h3 := m453
        omega
      have fin : fines b := mades_fineR (r := 4) (by decide) hG R4_bd b 5 3 (Nat.le_trans m453 (by decide)) mad
      -- great
      refine ⟨(by show 5 ≤ sizeLine; decide), fun ws2 nws2 => ?_⟩
      have s9 := same_new (o := .lst (WG.map V.str)) nws2
      have u9 := u8.same s9
      refine ⟨_, rfl, _, rfl, _, rfl, _, rfl, 10, 18, rfl, rfl, ⟨by decide, by decide, by decide⟩, _, rfl, 10, 18, rfl, rfl, ⟨by decide, by decide, by decide⟩, u, 10 ^ (18 : Int).toNat, rfl, u9, by decide, wide_big (by decide) (by decide), fun d H10 d0 d1 u10 b10 => ⟨1, d, rfl, rfl, ?_⟩⟩
      refine ⟨(by show 5 ≤ sizeLine; decide), fun rs2 nrs2 => ?_⟩
      have s11 := same_new (o := .lst (([0, 1, 2, 10 ^ (18 : Int).toNat, 1 + d] : List Int).map V.int)) nrs2
      have u11 := u10.same s11
      have nw2 : ws2 ≠ u := u8.ne nws2
      refine ⟨u, ws2, rs2, p, 1 + n0, WG, [0, 1, 2, 10 ^ (18 : Int).toNat, 1 + d], 5, 3, rfl, u11, p0, p1, by omega, by omega, nw2, SqL.of (s11 _ _ (b10 _ _ nw2 upd_same)), (by intro z; cases z), (by decide), WG_in, u10.ne nrs2, SqL.of upd_same, (by intro z; cases z), (by show 5 ≤ 1000; decide), (by decide), (by decide), fun g vg H12 gl madg hBg u12 b12 => ?_⟩
      have e18 : (10 : Int) ^ (18 : Int).toNat = 10 ^ 18 := by decide
      have dg : Dn p (1 + n0) g := ⟨gl, mades_imp2 (fun z as h => h.1) (fun k h => by
        have h : k ∈ ([0, 1, 2, 10 ^ (18 : Int).toNat, 1 + d] : List Int) := h
        simp only [List.mem_cons, List.not_mem_nil, or_false] at h
        rw [e18] at h d1
        rcases h with rfl | rfl | rfl | rfl | rfl <;> omega) g 5 3 madg⟩
      have kt12 := ((Kt.same s9).trans (u9.kt b10)).trans ((Kt.same s11).trans (u11.kt b12))
      have hB12 := hB.kt kt12
      have sD : Same H H12 := same_but ((same_but (sC.trans s9) nHu b10).trans s11) nHu b12
      -- asked
      refine ⟨_, rfl, _, rfl, _, rfl, _, rfl, u, v, b, p, 1 + n0, rfl, u12, hB12, dn, fin, big, p0, p1, by omega, by omega, fun H13 u13 b13 => ⟨_, rfl, iteF ?_⟩⟩
      refine ⟨_, rfl, _, rfl, _, rfl, u, v, b, p, 1 + n0, rfl, u13, hB12.kt (u12.kt b13), dn, by omega, by omega, fun H14 u14 b14 => ⟨_, rfl, iteF ?_⟩⟩
      refine ⟨_, rfl, _, rfl, _, rfl, u, vg, g, p, 1 + n0, rfl, u14, hBg.kt ((u12.kt b13).trans (u13.kt b14)), dg, by omega, by omega, fun H15 u15 b15 => ⟨_, rfl, iteF ?_⟩⟩
      exact ⟨_, _, _, _, rfl, same_but (same_but (same_but sD nHu b13) nHu b14) nHu b15, u15⟩
    · rintro σ H5 ⟨y5, y6, y7, y8, rfl, s5, u5⟩
      exact ⟨_, _, _, _, _, _, _, _, rfl, s5⟩
  · rintro σ H1 ⟨y1, y2, y3, y4, y5, y6, y7, y8, rfl, sm⟩
    exact q H1
end
end K16
set_option Elab.async false
set_option linter.all false
set_option maxRecDepth 100000
set_option pp.maxSteps 500
set_option pp.deepTerms.threshold 8
set_option pp.deepTerms false
namespace K16
open PySem PySem.Spec PyProof.Rows L2 Lj
set_option maxHeartbeats 8000000 in
theorem all_mk {l : PySem.W.OpenLaw} {w : World} {K : PySem.W.Frag} {h : Heap} {mg : Str → Option Value} {fa f0 f1 f2 f3 f4 f5 f6 f7 f8 f9 f10 f11 f12 f13 f14 f15 f16 f17 f18 f19 f20 f21 f22 f23 f24 f25 f26 f27 f28 f29 f30 : Addr} (X : K.In h) (G : h.Ns mainGlobals mg) (hfa : mg "law" = some (.ref fa))
    {od0 an0 od1 an1 od2 an2 od3 an3 od4 an4 od5 an5 od6 an6 od7 an7 od8 an8 od9 an9 od10 an10 od11 an11 od12 an12 od13 an13 od14 an14 od15 an15 od16 an16 od17 an17 od18 an18 od19 an19 od20 an20 od21 an21 od22 an22 od23 an23 od24 an24 od25 an25 od26 an26 od27 an27 od28 an28 od29 an29 od30 an30 : Option Addr} {sl0 sl1 sl2 sl3 sl4 sl5 sl6 sl7 sl8 sl9 sl10 sl11 sl12 sl13 sl14 sl15 sl16 sl17 sl18 sl19 sl20 sl21 sl22 sl23 sl24 sl25 sl26 sl27 sl28 sl29 sl30 : Array (Option Value)} {oc0 kV0 dc0 pm0 cd0 ct0 oc1 kV1 dc1 pm1 cd1 ct1 oc2 kV2 dc2 pm2 cd2 ct2 oc3 kV3 dc3 pm3 cd3 ct3 oc4 kV4 dc4 pm4 cd4 ct4 oc5 kV5 dc5 pm5 cd5 ct5 oc6 kV6 dc6 pm6 cd6 ct6 oc7 kV7 dc7 pm7 cd7 ct7 oc8 kV8 dc8 pm8 cd8 ct8 oc9 kV9 dc9 pm9 cd9 ct9 oc10 kV10 dc10 pm10 cd10 ct10 oc11 kV11 dc11 pm11 cd11 ct11 oc12 kV12 dc12 pm12 cd12 ct12 oc13 kV13 dc13 pm13 cd13 ct13 oc14 kV14 dc14 pm14 cd14 ct14 oc15 kV15 dc15 pm15 cd15 ct15 oc16 kV16 dc16 pm16 cd16 ct16 oc17 kV17 dc17 pm17 cd17 ct17 oc18 kV18 dc18 pm18 cd18 ct18 oc19 kV19 dc19 pm19 cd19 ct19 oc20 kV20 dc20 pm20 cd20 ct20 oc21 kV21 dc21 pm21 cd21 ct21 oc22 kV22 dc22 pm22 cd22 ct22 oc23 kV23 dc23 pm23 cd23 ct23 oc24 kV24 dc24 pm24 cd24 ct24 oc25 kV25 dc25 pm25 cd25 ct25 oc26 kV26 dc26 pm26 cd26 ct26 oc27 kV27 dc27 pm27 cd27 ct27 oc28 kV28 dc28 pm28 cd28 ct28 oc29 kV29 dc29 pm29 cd29 ct29 oc30 kV30 dc30 pm30 cd30 ct30 : Value}
    (a0 : PySem.W.nsIn K mainGlobals "is_between" = some (some (.ref f0))) (l0 : K.lookup f0 = some ⟨oc0, od0, .func (PySem.W.fnOf "is_between" "is_between" (defArgs sIs_between) (defBody sIs_between) (defScope sIs_between) .none kV0 dc0 pm0 an0 cd0 ct0), sl0⟩) (c0 : PySem.W.codeIn K cd0 "is_between" = true) (k0 : PySem.W.keepIn K (.ref f0) = true)
    (a1 : PySem.W.nsIn K mainGlobals "step_count" = some (some (.ref f1))) (l1 : K.lookup f1 = some ⟨oc1, od1, .func (PySem.W.fnOf "step_count" "step_count" (defArgs sStep_count) (defBody sStep_count) (defScope sStep_count) .none kV1 dc1 pm1 an1 cd1 ct1), sl1⟩) (c1 : PySem.W.codeIn K cd1 "step_count" = true) (k1 : PySem.W.keepIn K (.ref f1) = true)
    (a2 : PySem.W.nsIn K mainGlobals "length" = some (some (.ref f2))) (l2 : K.lookup f2 = some ⟨oc2, od2, .func (PySem.W.fnOf "length" "length" (defArgs sLength) (defBody sLength) (defScope sLength) .none kV2 dc2 pm2 an2 cd2 ct2), sl2⟩) (c2 : PySem.W.codeIn K cd2 "length" = true) (k2 : PySem.W.keepIn K (.ref f2) = true)
    (a3 : PySem.W.nsIn K mainGlobals "read_count" = some (some (.ref f3))) (l3 : K.lookup f3 = some ⟨oc3, od3, .func (PySem.W.fnOf "read_count" "read_count" (defArgs sRead_count) (defBody sRead_count) (defScope sRead_count) .none kV3 dc3 pm3 an3 cd3 ct3), sl3⟩) (c3 : PySem.W.codeIn K cd3 "read_count" = true) (k3 : PySem.W.keepIn K (.ref f3) = true)
    (a4 : PySem.W.nsIn K mainGlobals "write_count" = some (some (.ref f4))) (l4 : K.lookup f4 = some ⟨oc4, od4, .func (PySem.W.fnOf "write_count" "write_count" (defArgs sWrite_count) (defBody sWrite_count) (defScope sWrite_count) .none kV4 dc4 pm4 an4 cd4 ct4), sl4⟩) (c4 : PySem.W.codeIn K cd4 "write_count" = true) (k4 : PySem.W.keepIn K (.ref f4) = true)
    (a5 : PySem.W.nsIn K mainGlobals "word_count" = some (some (.ref f5))) (l5 : K.lookup f5 = some ⟨oc5, od5, .func (PySem.W.fnOf "word_count" "word_count" (defArgs sWord_count) (defBody sWord_count) (defScope sWord_count) .none kV5 dc5 pm5 an5 cd5 ct5), sl5⟩) (c5 : PySem.W.codeIn K cd5 "word_count" = true) (k5 : PySem.W.keepIn K (.ref f5) = true)
    (a6 : PySem.W.nsIn K mainGlobals "locate" = some (some (.ref f6))) (l6 : K.lookup f6 = some ⟨oc6, od6, .func (PySem.W.fnOf "locate" "locate" (defArgs sLocate) (defBody sLocate) (defScope sLocate) .none kV6 dc6 pm6 an6 cd6 ct6), sl6⟩) (c6 : PySem.W.codeIn K cd6 "locate" = true) (k6 : PySem.W.keepIn K (.ref f6) = true)
    (a7 : PySem.W.nsIn K mainGlobals "place" = some (some (.ref f7))) (l7 : K.lookup f7 = some ⟨oc7, od7, .func (PySem.W.fnOf "place" "place" (defArgs sPlace) (defBody sPlace) (defScope sPlace) .none kV7 dc7 pm7 an7 cd7 ct7), sl7⟩) (c7 : PySem.W.codeIn K cd7 "place" = true) (k7 : PySem.W.keepIn K (.ref f7) = true)
    (a8 : PySem.W.nsIn K mainGlobals "reads_before" = some (some (.ref f8))) (l8 : K.lookup f8 = some ⟨oc8, od8, .func (PySem.W.fnOf "reads_before" "reads_before" (defArgs sReads_before) (defBody sReads_before) (defScope sReads_before) .none kV8 dc8 pm8 an8 cd8 ct8), sl8⟩) (c8 : PySem.W.codeIn K cd8 "reads_before" = true) (k8 : PySem.W.keepIn K (.ref f8) = true)
    (a9 : PySem.W.nsIn K mainGlobals "reads_within" = some (some (.ref f9))) (l9 : K.lookup f9 = some ⟨oc9, od9, .func (PySem.W.fnOf "reads_within" "reads_within" (defArgs sReads_within) (defBody sReads_within) (defScope sReads_within) .none kV9 dc9 pm9 an9 cd9 ct9), sl9⟩) (c9 : PySem.W.codeIn K cd9 "reads_within" = true) (k9 : PySem.W.keepIn K (.ref f9) = true)
    (a10 : PySem.W.nsIn K mainGlobals "last_assignment" = some (some (.ref f10))) (l10 : K.lookup f10 = some ⟨oc10, od10, .func (PySem.W.fnOf "last_assignment" "last_assignment" (defArgs sLast_assignment) (defBody sLast_assignment) (defScope sLast_assignment) .none kV10 dc10 pm10 an10 cd10 ct10), sl10⟩) (c10 : PySem.W.codeIn K cd10 "last_assignment" = true) (k10 : PySem.W.keepIn K (.ref f10) = true)
    (a11 : PySem.W.nsIn K mainGlobals "last_within" = some (some (.ref f11))) (l11 : K.lookup f11 = some ⟨oc11, od11, .func (PySem.W.fnOf "last_within" "last_within" (defArgs sLast_within) (defBody sLast_within) (defScope sLast_within) .none kV11 dc11 pm11 an11 cd11 ct11), sl11⟩) (c11 : PySem.W.codeIn K cd11 "last_within" = true) (k11 : PySem.W.keepIn K (.ref f11) = true)
    (a12 : PySem.W.nsIn K mainGlobals "assigns" = some (some (.ref f12))) (l12 : K.lookup f12 = some ⟨oc12, od12, .func (PySem.W.fnOf "assigns" "assigns" (defArgs sAssigns) (defBody sAssigns) (defScope sAssigns) .none kV12 dc12 pm12 an12 cd12 ct12), sl12⟩) (c12 : PySem.W.codeIn K cd12 "assigns" = true) (k12 : PySem.W.keepIn K (.ref f12) = true)
    (a13 : PySem.W.nsIn K mainGlobals "executed" = some (some (.ref f13))) (l13 : K.lookup f13 = some ⟨oc13, od13, .func (PySem.W.fnOf "executed" "executed" (defArgs sPexecuted) (defBody sPexecuted) (defScope sPexecuted) .none kV13 dc13 pm13 an13 cd13 ct13), sl13⟩) (c13 : PySem.W.codeIn K cd13 "executed" = true) (k13 : PySem.W.keepIn K (.ref f13) = true)
    (a14 : PySem.W.nsIn K mainGlobals "run" = some (some (.ref f14))) (l14 : K.lookup f14 = some ⟨oc14, od14, .func (PySem.W.fnOf "run" "run" (defArgs sRun) (defBody sRun) (defScope sRun) .none kV14 dc14 pm14 an14 cd14 ct14), sl14⟩) (c14 : PySem.W.codeIn K cd14 "run" = true) (k14 : PySem.W.keepIn K (.ref f14) = true)
    (a15 : PySem.W.nsIn K mainGlobals "unrolled" = some (some (.ref f15))) (l15 : K.lookup f15 = some ⟨oc15, od15, .func (PySem.W.fnOf "unrolled" "unrolled" (defArgs sUnrolled) (defBody sUnrolled) (defScope sUnrolled) .none kV15 dc15 pm15 an15 cd15 ct15), sl15⟩) (c15 : PySem.W.codeIn K cd15 "unrolled" = true) (k15 : PySem.W.keepIn K (.ref f15) = true)
    (a16 : PySem.W.nsIn K mainGlobals "_law_urn" = some (some (.ref f16))) (l16 : K.lookup f16 = some ⟨oc16, od16, .func (PySem.W.fnOf "_law_urn" "_law_urn" (defArgs sUrn) (defBody sUrn) (defScope sUrn) .none kV16 dc16 pm16 an16 cd16 ct16), sl16⟩) (c16 : PySem.W.codeIn K cd16 "_law_urn" = true) (k16 : PySem.W.keepIn K (.ref f16) = true)
    (a17 : PySem.W.nsIn K mainGlobals "_law_take" = some (some (.ref f17))) (l17 : K.lookup f17 = some ⟨oc17, od17, .func (PySem.W.fnOf "_law_take" "_law_take" (defArgs sTake) (defBody sTake) (defScope sTake) .none kV17 dc17 pm17 an17 cd17 ct17), sl17⟩) (c17 : PySem.W.codeIn K cd17 "_law_take" = true) (k17 : PySem.W.keepIn K (.ref f17) = true)
    (a18 : PySem.W.nsIn K mainGlobals "_law_of" = some (some (.ref f18))) (l18 : K.lookup f18 = some ⟨oc18, od18, .func (PySem.W.fnOf "_law_of" "_law_of" (defArgs sOf) (defBody sOf) (defScope sOf) .none kV18 dc18 pm18 an18 cd18 ct18), sl18⟩) (c18 : PySem.W.codeIn K cd18 "_law_of" = true) (k18 : PySem.W.keepIn K (.ref f18) = true)
    (a19 : PySem.W.nsIn K mainGlobals "_law_prime" = some (some (.ref f19))) (l19 : K.lookup f19 = some ⟨oc19, od19, .func (PySem.W.fnOf "_law_prime" "_law_prime" (defArgs sPrime) (defBody sPrime) (defScope sPrime) .none kV19 dc19 pm19 an19 cd19 ct19), sl19⟩) (c19 : PySem.W.codeIn K cd19 "_law_prime" = true) (k19 : PySem.W.keepIn K (.ref f19) = true)
    (a20 : PySem.W.nsIn K mainGlobals "_law_item" = some (some (.ref f20))) (l20 : K.lookup f20 = some ⟨oc20, od20, .func (PySem.W.fnOf "_law_item" "_law_item" (defArgs sItem) (defBody sItem) (defScope sItem) .none kV20 dc20 pm20 an20 cd20 ct20), sl20⟩) (c20 : PySem.W.codeIn K cd20 "_law_item" = true) (k20 : PySem.W.keepIn K (.ref f20) = true)
    (a21 : PySem.W.nsIn K mainGlobals "_law_body" = some (some (.ref f21))) (l21 : K.lookup f21 = some ⟨oc21, od21, .func (PySem.W.fnOf "_law_body" "_law_body" (defArgs sBody) (defBody sBody) (defScope sBody) .none kV21 dc21 pm21 an21 cd21 ct21), sl21⟩) (c21 : PySem.W.codeIn K cd21 "_law_body" = true) (k21 : PySem.W.keepIn K (.ref f21) = true)
    (a22 : PySem.W.nsIn K mainGlobals "_law_words" = some (some (.ref f22))) (l22 : K.lookup f22 = some ⟨oc22, od22, .func (PySem.W.fnOf "_law_words" "_law_words" (defArgs sWords) (defBody sWords) (defScope sWords) .none kV22 dc22 pm22 an22 cd22 ct22), sl22⟩) (c22 : PySem.W.codeIn K cd22 "_law_words" = true) (k22 : PySem.W.keepIn K (.ref f22) = true)
    (a23 : PySem.W.nsIn K mainGlobals "_law_steps" = some (some (.ref f23))) (l23 : K.lookup f23 = some ⟨oc23, od23, .func (PySem.W.fnOf "_law_steps" "_law_steps" (defArgs sSteps) (defBody sSteps) (defScope sSteps) .none kV23 dc23 pm23 an23 cd23 ct23), sl23⟩) (c23 : PySem.W.codeIn K cd23 "_law_steps" = true) (k23 : PySem.W.keepIn K (.ref f23) = true)
    (a24 : PySem.W.nsIn K mainGlobals "_law_executed" = some (some (.ref f24))) (l24 : K.lookup f24 = some ⟨oc24, od24, .func (PySem.W.fnOf "_law_executed" "_law_executed" (defArgs sExecuted) (defBody sExecuted) (defScope sExecuted) .none kV24 dc24 pm24 an24 cd24 ct24), sl24⟩) (c24 : PySem.W.codeIn K cd24 "_law_executed" = true) (k24 : PySem.W.keepIn K (.ref f24) = true)
    (a25 : PySem.W.nsIn K mainGlobals "_law_tuple" = some (some (.ref f25))) (l25 : K.lookup f25 = some ⟨oc25, od25, .func (PySem.W.fnOf "_law_tuple" "_law_tuple" (defArgs sTuple) (defBody sTuple) (defScope sTuple) .none kV25 dc25 pm25 an25 cd25 ct25), sl25⟩) (c25 : PySem.W.codeIn K cd25 "_law_tuple" = true) (k25 : PySem.W.keepIn K (.ref f25) = true)
    (a26 : PySem.W.nsIn K mainGlobals "_law_split" = some (some (.ref f26))) (l26 : K.lookup f26 = some ⟨oc26, od26, .func (PySem.W.fnOf "_law_split" "_law_split" (defArgs sSplit) (defBody sSplit) (defScope sSplit) .none kV26 dc26 pm26 an26 cd26 ct26), sl26⟩) (c26 : PySem.W.codeIn K cd26 "_law_split" = true) (k26 : PySem.W.keepIn K (.ref f26) = true)
    (a27 : PySem.W.nsIn K mainGlobals "_law_size" = some (some (.ref f27))) (l27 : K.lookup f27 = some ⟨oc27, od27, .func (PySem.W.fnOf "_law_size" "_law_size" (defArgs sSize) (defBody sSize) (defScope sSize) .none kV27 dc27 pm27 an27 cd27 ct27), sl27⟩) (c27 : PySem.W.codeIn K cd27 "_law_size" = true) (k27 : PySem.W.keepIn K (.ref f27) = true)
    (a28 : PySem.W.nsIn K mainGlobals "_law_great_right" = some (some (.ref f28))) (l28 : K.lookup f28 = some ⟨oc28, od28, .func (PySem.W.fnOf "_law_great_right" "_law_great_right" (defArgs sGreat_right) (defBody sGreat_right) (defScope sGreat_right) .none kV28 dc28 pm28 an28 cd28 ct28), sl28⟩) (c28 : PySem.W.codeIn K cd28 "_law_great_right" = true) (k28 : PySem.W.keepIn K (.ref f28) = true)
    (a29 : PySem.W.nsIn K mainGlobals "_law_run_right" = some (some (.ref f29))) (l29 : K.lookup f29 = some ⟨oc29, od29, .func (PySem.W.fnOf "_law_run_right" "_law_run_right" (defArgs sRun_right) (defBody sRun_right) (defScope sRun_right) .none kV29 dc29 pm29 an29 cd29 ct29), sl29⟩) (c29 : PySem.W.codeIn K cd29 "_law_run_right" = true) (k29 : PySem.W.keepIn K (.ref f29) = true)
    (a30 : PySem.W.nsIn K mainGlobals "law" = some (some (.ref f30))) (l30 : K.lookup f30 = some ⟨oc30, od30, .func (PySem.W.fnOf "law" "law" (defArgs sLaw) (defBody sLaw) (defScope sLaw) .none kV30 dc30 pm30 an30 cd30 ct30), sl30⟩) (c30 : PySem.W.codeIn K cd30 "law" = true) (k30 : PySem.W.keepIn K (.ref f30) = true)
    (z0 : PySem.W.nsIn K mainGlobals "len" = some none)
    (z1 : PySem.W.nsIn K mainGlobals "abs" = some none)
    (z2 : PySem.W.nsIn K mainGlobals "int" = some none)
    (z3 : PySem.W.nsIn K mainGlobals "range" = some none)
    (z4 : PySem.W.nsIn K mainGlobals "max" = some none)
    (z5 : PySem.W.nsIn K mainGlobals "min" = some none)
    (z6 : PySem.W.nsIn K mainGlobals "all" = some none)
    (z7 : PySem.W.nsIn K mainGlobals "sum" = some none)
    (z8 : PySem.W.nsIn K mainGlobals "list" = some none)
    (z9 : PySem.W.nsIn K mainGlobals "tuple" = some none)
    (z10 : PySem.W.nsIn K mainGlobals "isinstance" = some none)
    (z11 : PySem.W.nsIn K mainGlobals "bool" = some none)
    (z12 : PySem.W.nsIn K mainGlobals "repr" = some none)
    (z13 : PySem.W.nsIn K mainGlobals "enumerate" = some none)
    (z14 : PySem.W.nsIn K mainGlobals "zip" = some none)
    (z15 : PySem.W.nsIn K mainGlobals "divmod" = some none)
    {tk0 : Tok} (v0 : PySem.W.nsIn K mainGlobals "MAX_STEPS" = some (some (.int 20000 tk0)))
    {CR fRRinit fRRperform : Addr} {odRRinit anRRinit odRRperform anRRperform : Option Addr} {slRRinit slRRperform : Array (Option Value)} {ocRRinit kVRRinit dcRRinit pmRRinit cdRRinit ctRRinit ocRRperform kVRRperform dcRRperform pmRRperform cdRRperform ctRRperform : Value}
    (aCR : PySem.W.nsIn K mainGlobals "Runner" = some (some (.ref CR)))
    (aRRinit : PySem.W.findIn K (.ref CR) "__init__" = some (some (.ref fRRinit))) (iRRinit : PySem.W.isFn K (.ref fRRinit) = true) (lRRinit : K.lookup fRRinit = some ⟨ocRRinit, odRRinit, .func (PySem.W.fnOf "__init__" "Runner.__init__" (defArgs sRinit) (defBody sRinit) (defScope sRinit) .none kVRRinit dcRRinit pmRRinit anRRinit cdRRinit ctRRinit), slRRinit⟩) (cRRinit : PySem.W.codeIn K cdRRinit "Runner.__init__" = true) (kRRinit : PySem.W.keepIn K (.ref fRRinit) = true)
    (aRRperform : PySem.W.findIn K (.ref CR) "perform" = some (some (.ref fRRperform))) (iRRperform : PySem.W.isFn K (.ref fRRperform) = true) (lRRperform : K.lookup fRRperform = some ⟨ocRRperform, odRRperform, .func (PySem.W.fnOf "perform" "Runner.perform" (defArgs sRperform) (defBody sRperform) (defScope sRperform) .none kVRRperform dcRRperform pmRRperform anRRperform cdRRperform ctRRperform), slRRperform⟩) (cRRperform : PySem.W.codeIn K cdRRperform "Runner.perform" = true) (kRRperform : PySem.W.keepIn K (.ref fRRperform) = true)
    (pgR : PySem.W.plainGet K CR Str.empty = true) (hdR : PySem.W.hasDictIn K CR = true) (poR : PySem.W.plainOver K CR = true) (saR : PySem.W.findIn K (.ref CR) "__setattr__" = some (some (.builtin "object.__setattr__"))) (mkR : PySem.W.makesIn K CR = true) (kcR : PySem.W.keepIn K (.ref CR) = true)
    (nR0 : PySem.W.findIn K (.ref CR) "p" = some none)
    (nR1 : PySem.W.findIn K (.ref CR) "row" = some none)
    (nR2 : PySem.W.findIn K (.ref CR) "given" = some none)
    (nR3 : PySem.W.findIn K (.ref CR) "taken" = some none)
    (nR4 : PySem.W.findIn K (.ref CR) "written" = some none)
    : ∃ fd : FuncData, (∀ (s : Shared) (v : Value), BindsTo s fd ⟨[v], []⟩ [("_law_script", v)]) ∧ ∀ base : Heap, K.In base → base.Ns mainGlobals mg → FnG l.prog w K mg base 13 fa fd ["_law_script"] (spLaw K) := by
  have FIs_between := fun_mk (st := sIs_between) l0 c0 k0
  have AIs_between : At K mg "is_between" sIs_between ["value", "low", "high"] := ⟨_, _, FIs_between, FIs_between.binds (ps := ["value", "low", "high"]) fun _ _ _ _ _ _ us hl => match us, hl with | [_, _, _], _ => rfl, PySem.W.mg_of X G a0⟩
  have FStep_count := fun_mk (st := sStep_count) l1 c1 k1
  have AStep_count : At K mg "step_count" sStep_count ["program"] := ⟨_, _, FStep_count, FStep_count.binds (ps := ["program"]) fun _ _ _ _ _ _ us hl => match us, hl with | [_], _ => rfl, PySem.W.mg_of X G a1⟩
  have FLength := fun_mk (st := sLength) l2 c2 k2
  have ALength : At K mg "length" sLength ["instruction"] := ⟨_, _, FLength, FLength.binds (ps := ["instruction"]) fun _ _ _ _ _ _ us hl => match us, hl with | [_], _ => rfl, PySem.W.mg_of X G a2⟩
  have FRead_count := fun_mk (st := sRead_count) l3 c3 k3
  have ARead_count : At K mg "read_count" sRead_count ["program"] := ⟨_, _, FRead_count, FRead_count.binds (ps := ["program"]) fun _ _ _ _ _ _ us hl => match us, hl with | [_], _ => rfl, PySem.W.mg_of X G a3⟩
  have FWrite_count := fun_mk (st := sWrite_count) l4 c4 k4
  have AWrite_count : At K mg "write_count" sWrite_count ["program"] := ⟨_, _, FWrite_count, FWrite_count.binds (ps := ["program"]) fun _ _ _ _ _ _ us hl => match us, hl with | [_], _ => rfl, PySem.W.mg_of X G a4⟩
  have FWord_count := fun_mk (st := sWord_count) l5 c5 k5
  have AWord_count : At K mg "word_count" sWord_count ["program", "word"] := ⟨_, _, FWord_count, FWord_count.binds (ps := ["program", "word"]) fun _ _ _ _ _ _ us hl => match us, hl with | [_, _], _ => rfl, PySem.W.mg_of X G a5⟩
  have FLocate := fun_mk (st := sLocate) l6 c6 k6
  have ALocate : At K mg "locate" sLocate ["program", "step"] := ⟨_, _, FLocate, FLocate.binds (ps := ["program", "step"]) fun _ _ _ _ _ _ us hl => match us, hl with | [_, _], _ => rfl, PySem.W.mg_of X G a6⟩
  have FPlace := fun_mk (st := sPlace) l7 c7 k7
  have APlace : At K mg "place" sPlace ["program", "step"] := ⟨_, _, FPlace, FPlace.binds (ps := ["program", "step"]) fun _ _ _ _ _ _ us hl => match us, hl with | [_, _], _ => rfl, PySem.W.mg_of X G a7⟩
  have FReads_before := fun_mk (st := sReads_before) l8 c8 k8
  have AReads_before : At K mg "reads_before" sReads_before ["program", "moment"] := ⟨_, _, FReads_before, FReads_before.binds (ps := ["program", "moment"]) fun _ _ _ _ _ _ us hl => match us, hl with | [_, _], _ => rfl, PySem.W.mg_of X G a8⟩
  have FReads_within := fun_mk (st := sReads_within) l9 c9 k9
  have AReads_within : At K mg "reads_within" sReads_within ["instruction", "moment"] := ⟨_, _, FReads_within, FReads_within.binds (ps := ["instruction", "moment"]) fun _ _ _ _ _ _ us hl => match us, hl with | [_, _], _ => rfl, PySem.W.mg_of X G a9⟩
  have FLast_assignment := fun_mk (st := sLast_assignment) l10 c10 k10
  have ALast_assignment : At K mg "last_assignment" sLast_assignment ["program", "moment", "x"] := ⟨_, _, FLast_assignment, FLast_assignment.binds (ps := ["program", "moment", "x"]) fun _ _ _ _ _ _ us hl => match us, hl with | [_, _, _], _ => rfl, PySem.W.mg_of X G a10⟩
  have FLast_within := fun_mk (st := sLast_within) l11 c11 k11
  have ALast_within : At K mg "last_within" sLast_within ["instruction", "moment", "x"] := ⟨_, _, FLast_within, FLast_within.binds (ps := ["instruction", "moment", "x"]) fun _ _ _ _ _ _ us hl => match us, hl with | [_, _, _], _ => rfl, PySem.W.mg_of X G a11⟩
  have FAssigns := fun_mk (st := sAssigns) l12 c12 k12
  have AAssigns : At K mg "assigns" sAssigns ["instruction", "x"] := ⟨_, _, FAssigns, FAssigns.binds (ps := ["instruction", "x"]) fun _ _ _ _ _ _ us hl => match us, hl with | [_, _], _ => rfl, PySem.W.mg_of X G a12⟩
  have FPexecuted := fun_mk (st := sPexecuted) l13 c13 k13
  have APexecuted : At K mg "executed" sPexecuted ["p", "instruction", "row"] := ⟨_, _, FPexecuted, FPexecuted.binds (ps := ["p", "instruction", "row"]) fun _ _ _ _ _ _ us hl => match us, hl with | [_, _, _], _ => rfl, PySem.W.mg_of X G a13⟩
  have FRun := fun_mk (st := sRun) l14 c14 k14
  have ARun : At K mg "run" sRun ["p", "program", "registers", "inputs"] := ⟨_, _, FRun, FRun.binds (ps := ["p", "program", "registers", "inputs"]) fun _ _ _ _ _ _ us hl => match us, hl with | [_, _, _, _], _ => rfl, PySem.W.mg_of X G a14⟩
  have FUnrolled := fun_mk (st := sUnrolled) l15 c15 k15
  have AUnrolled : At K mg "unrolled" sUnrolled ["program"] := ⟨_, _, FUnrolled, FUnrolled.binds (ps := ["program"]) fun _ _ _ _ _ _ us hl => match us, hl with | [_], _ => rfl, PySem.W.mg_of X G a15⟩
  have FUrn := fun_mk (st := sUrn) l16 c16 k16
  have AUrn : At K mg "_law_urn" sUrn ["_law_script", "_law_k"] := ⟨_, _, FUrn, FUrn.binds (ps := ["_law_script", "_law_k"]) fun _ _ _ _ _ _ us hl => match us, hl with | [_, _], _ => rfl, PySem.W.mg_of X G a16⟩
  have FTake := fun_mk (st := sTake) l17 c17 k17
  have ATake : At K mg "_law_take" sTake ["_law_urn_here", "_law_below"] := ⟨_, _, FTake, FTake.binds (ps := ["_law_urn_here", "_law_below"]) fun _ _ _ _ _ _ us hl => match us, hl with | [_, _], _ => rfl, PySem.W.mg_of X G a17⟩
  have FOf := fun_mk (st := sOf) l18 c18 k18
  have AOf : At K mg "_law_of" sOf ["_law_urn_here", "_law_items"] := ⟨_, _, FOf, FOf.binds (ps := ["_law_urn_here", "_law_items"]) fun _ _ _ _ _ _ us hl => match us, hl with | [_, _], _ => rfl, PySem.W.mg_of X G a18⟩
  have FPrime := fun_mk (st := sPrime) l19 c19 k19
  have APrime : At K mg "_law_prime" sPrime ["_law_urn_here"] := ⟨_, _, FPrime, FPrime.binds (ps := ["_law_urn_here"]) fun _ _ _ _ _ _ us hl => match us, hl with | [_], _ => rfl, PySem.W.mg_of X G a19⟩
  have FItem := fun_mk (st := sItem) l20 c20 k20
  have AItem : At K mg "_law_item" sItem ["_law_urn_here", "_law_p", "_law_n", "_law_words_here"] := ⟨_, _, FItem, FItem.binds (ps := ["_law_urn_here", "_law_p", "_law_n", "_law_words_here"]) fun _ _ _ _ _ _ us hl => match us, hl with | [_, _, _, _], _ => rfl, PySem.W.mg_of X G a20⟩
  have FBody := fun_mk (st := sBody) l21 c21 k21
  have ABody : At K mg "_law_body" sBody ["_law_urn_here", "_law_p", "_law_n", "_law_words_here", "_law_length", "_law_deep", "_law_rounds"] := ⟨_, _, FBody, FBody.binds (ps := ["_law_urn_here", "_law_p", "_law_n", "_law_words_here", "_law_length", "_law_deep", "_law_rounds"]) fun _ _ _ _ _ _ us hl => match us, hl with | [_, _, _, _, _, _, _], _ => rfl, PySem.W.mg_of X G a21⟩
  have FWords := fun_mk (st := sWords) l22 c22 k22
  have AWords : At K mg "_law_words" sWords [] := ⟨_, _, FWords, FWords.binds (ps := []) fun _ _ _ _ _ _ us hl => match us, hl with | [], _ => rfl, PySem.W.mg_of X G a22⟩
  have FSteps := fun_mk (st := sSteps) l23 c23 k23
  have ASteps : At K mg "_law_steps" sSteps ["_law_program"] := ⟨_, _, FSteps, FSteps.binds (ps := ["_law_program"]) fun _ _ _ _ _ _ us hl => match us, hl with | [_], _ => rfl, PySem.W.mg_of X G a23⟩
  have FExecuted := fun_mk (st := sExecuted) l24 c24 k24
  have AExecuted : At K mg "_law_executed" sExecuted ["_law_program"] := ⟨_, _, FExecuted, FExecuted.binds (ps := ["_law_program"]) fun _ _ _ _ _ _ us hl => match us, hl with | [_], _ => rfl, PySem.W.mg_of X G a24⟩
  have FTuple := fun_mk (st := sTuple) l25 c25 k25
  have ATuple : At K mg "_law_tuple" sTuple ["_law_urn_here", "_law_p", "_law_count"] := ⟨_, _, FTuple, FTuple.binds (ps := ["_law_urn_here", "_law_p", "_law_count"]) fun _ _ _ _ _ _ us hl => match us, hl with | [_, _, _], _ => rfl, PySem.W.mg_of X G a25⟩
  have FSplit := fun_mk (st := sSplit) l26 c26 k26
  have ASplit : At K mg "_law_split" sSplit ["_law_urn_here", "_law_program"] := ⟨_, _, FSplit, FSplit.binds (ps := ["_law_urn_here", "_law_program"]) fun _ _ _ _ _ _ us hl => match us, hl with | [_, _], _ => rfl, PySem.W.mg_of X G a26⟩
  have FSize := fun_mk (st := sSize) l27 c27 k27
  have ASize : At K mg "_law_size" sSize ["_law_program"] := ⟨_, _, FSize, FSize.binds (ps := ["_law_program"]) fun _ _ _ _ _ _ us hl => match us, hl with | [_], _ => rfl, PySem.W.mg_of X G a27⟩
  have FGreat_right := fun_mk (st := sGreat_right) l28 c28 k28
  have AGreat_right : At K mg "_law_great_right" sGreat_right ["_law_urn_here", "_law_program", "_law_n"] := ⟨_, _, FGreat_right, FGreat_right.binds (ps := ["_law_urn_here", "_law_program", "_law_n"]) fun _ _ _ _ _ _ us hl => match us, hl with | [_, _, _], _ => rfl, PySem.W.mg_of X G a28⟩
  have FRun_right := fun_mk (st := sRun_right) l29 c29 k29
  have ARun_right : At K mg "_law_run_right" sRun_right ["_law_urn_here", "_law_p", "_law_n", "_law_program"] := ⟨_, _, FRun_right, FRun_right.binds (ps := ["_law_urn_here", "_law_p", "_law_n", "_law_program"]) fun _ _ _ _ _ _ us hl => match us, hl with | [_, _, _, _], _ => rfl, PySem.W.mg_of X G a29⟩
  have FLaw := fun_mk (st := sLaw) l30 c30 k30
  have ALaw : At K mg "law" sLaw ["_law_script"] := ⟨_, _, FLaw, FLaw.binds (ps := ["_law_script"]) fun _ _ _ _ _ _ us hl => match us, hl with | [_], _ => rfl, PySem.W.mg_of X G a30⟩
  have FRRinit := fun_mk (st := sRinit) lRRinit cRRinit kRRinit
  have bRRinit := FRRinit.binds (ps := ["self", "p", "registers", "inputs"]) fun _ _ _ _ _ _ us hl => match us, hl with | [_, _, _, _], _ => rfl
  have FRRperform := fun_mk (st := sRperform) lRRperform cRRperform kRRperform
  have bRRperform := FRRperform.binds (ps := ["self", "instruction"]) fun _ _ _ _ _ _ us hl => match us, hl with | [_, _], _ => rfl
  have gCR := PySem.W.mg_of X G aCR
  have M : Bl mg := ⟨PySem.W.mg_none_of X G z0, PySem.W.mg_none_of X G z1, PySem.W.mg_none_of X G z2, PySem.W.mg_none_of X G z3, PySem.W.mg_none_of X G z4, PySem.W.mg_none_of X G z5, PySem.W.mg_none_of X G z6, PySem.W.mg_none_of X G z7, PySem.W.mg_none_of X G z8, PySem.W.mg_none_of X G z9, PySem.W.mg_none_of X G z10, PySem.W.mg_none_of X G z11, PySem.W.mg_none_of X G z12, PySem.W.mg_none_of X G z13, PySem.W.mg_none_of X G z14, PySem.W.mg_none_of X G z15⟩
  have g_MAX_STEPS := PySem.W.mg_of X G v0
  refine ⟨PySem.W.fnOf "law" "law" (defArgs sLaw) (defBody sLaw) (defScope sLaw) .none kV30 dc30 pm30 an30 cd30 ct30, fun s v => .of_eq rfl, fun base _ _ => ?_⟩
  have T : RTxt K mg CR := ⟨⟨pgR, hdR, poR, saR⟩, nR0, nR1, nR2, nR3, nR4, gCR⟩
  obtain ⟨fX, fdX, FX, bX, gX⟩ := APexecuted
  have GI : FnOk l.prog w K mg base CX0 1 fRRinit _ ["self", "p", "registers", "inputs"] (spRInit K CR) := ok_rinit FRRinit T
  have GP : FnOk l.prog w K mg base CX0 2 fRRperform _ ["self", "instruction"] (spPerf K CR) := ok_perform FRRperform T M FX bX gX
  have hT : Has l.prog w K mg base 1 "_law_take" ["_law_urn_here", "_law_below"] spTake := has_take ATake
  have hO : Has l.prog w K mg base 2 "_law_of" ["_law_urn_here", "_law_items"] (spOf K) := has_of M AOf ATake
  have hI := ok_item M AItem hO (hT.up (by decide))
  have hS : ∀ n, Has l.prog w K mg base (2 * n) "step_count" ["program"] (spTI K (okB n) lens) := ok_steps M ALength AStep_count
  have hU : ∀ n, Has l.prog w K mg base (2 * n) "unrolled" ["program"] (spUnr K n) := ok_unr M AUnrolled ALength AStep_count
  have hW := ok_word (P := l.prog) (w := w) (base := base) M AWord_count 4
  have hRun := ok_run (d := 3) (k := 8) M ARun g_MAX_STEPS T ⟨mkR, aRRinit, iRRinit, kcR⟩ (by decide) GI bRRinit GP bRRperform ⟨aRRperform, iRRperform, kRRperform⟩ (hS 4) (hU 4)
  have hSp : Has l.prog w K mg base 5 "_law_split" ["_law_urn_here", "_law_program"] (spSplit K 4) := ok_split M ASplit hT 4
  have hSz := ok_size (P := l.prog) (w := w) (base := base) M ASize 4
  have hP := ok_locate (n := 3) (k := 10) M ALocate (by decide) ((hS 4).up (by decide)) ((ok_bt (k := 0) M AIs_between).up (by decide)) ((ok_place M APlace (ok_length M ALength (hS 3))).up (by decide))
  have hRB : Has l.prog w K mg base 9 "reads_before" ["program", "moment"] (spRB K 4) := ok_rbefores M ALength AStep_count ARead_count AWord_count AReads_within AReads_before 4 (by decide)
  have hLA : Has l.prog w K mg base 9 "last_assignment" ["program", "moment", "x"] (spLA K 4) := ok_lasts M ALength AStep_count AAssigns ALast_within ALast_assignment 4 (by decide)
  have hGr := ok_great (k := 11) M AGreat_right (hSp.up (by decide)) (hT.up (by decide)) (hO.up (by decide)) ((ok_lsteps M ASteps 4).up (by decide)) (hSz.up (by decide)) ((hS 4).up (by decide)) ((ok_read ARead_count hW).up (by decide)) ((ok_write AWrite_count hW).up (by decide)) hP (hRB.up (by decide)) (hLA.up (by decide))
  have hRR := ok_rr (k := 11) M ARun_right (hSp.up (by decide)) ((ok_exec M AExecuted 4).up (by decide)) ((ok_tup M ATuple hO (hT.up (by decide))).up (by decide)) (hSz.up (by decide)) (hRun.up (by decide))
  have hLaw := ok_law (P := l.prog) (w := w) (base := base) (k := 12) M ALaw ((has_urn M AUrn).up (by decide)) (hT.up (by decide)) ((ok_prime APrime hO).up (by decide)) ((ok_words AWords).up (by decide)) ((ok_body M ABody (hO.up (k := 3) (by decide)) (hT.up (by decide)) hI 4).up (by decide)) hRR hGr
  obtain ⟨f, fd, c⟩ := hLaw
  cases hfa.symm.trans c.g
  cases hfa.symm.trans (PySem.W.mg_of X G a30)
  obtain ⟨_, _, _, e⟩ := c.lk
  cases e.symm.trans l30
  exact c.ok
end K16
open PySem PySem.W PyProof.Rows
set_option maxRecDepth 100000 in
set_option maxHeartbeats 0 in
theorem PySem.Challenge.cw_leastjournal_k16_whole_unrolled_loops_holds : PySem.Challenge.rw_leastjournal_k16_whole_unrolled_loops.Holds := by
  w_on; o_law; k_head; (case hw => w_witness2)
  k_fill
  refine Lj.walk_G (l := PySem.Challenge.rw_leastjournal_k16_whole_unrolled_loops) (n := 63) (k := 13) (x := "_law_script") (sp := K16.spLaw) rfl (by decide) rfl ⟨rfl, by decide, by decide⟩ (fun w h Y => PySem.W.kIn_of Y) ?F (fun _ _ a ns hl _ hS => ⟨a, ns, rfl, hS, hl, fun _ => rfl⟩)
  case F =>
    intro w mg fa h KX G hmg
    refine' K16.all_mk KX G hmg ?a0 ?l0 ?c0 ?k0 ?a1 ?l1 ?c1 ?k1 ?a2 ?l2 ?c2 ?k2 ?a3 ?l3 ?c3 ?k3 ?a4 ?l4 ?c4 ?k4 ?a5 ?l5 ?c5 ?k5 ?a6 ?l6 ?c6 ?k6 ?a7 ?l7 ?c7 ?k7 ?a8 ?l8 ?c8 ?k8 ?a9 ?l9 ?c9 ?k9 ?a10 ?l10 ?c10 ?k10 ?a11 ?l11 ?c11 ?k11 ?a12 ?l12 ?c12 ?k12 ?a13 ?l13 ?c13 ?k13 ?a14 ?l14 ?c14 ?k14 ?a15 ?l15 ?c15 ?k15 ?a16 ?l16 ?c16 ?k16 ?a17 ?l17 ?c17 ?k17 ?a18 ?l18 ?c18 ?k18 ?a19 ?l19 ?c19 ?k19 ?a20 ?l20 ?c20 ?k20 ?a21 ?l21 ?c21 ?k21 ?a22 ?l22 ?c22 ?k22 ?a23 ?l23 ?c23 ?k23 ?a24 ?l24 ?c24 ?k24 ?a25 ?l25 ?c25 ?k25 ?a26 ?l26 ?c26 ?k26 ?a27 ?l27 ?c27 ?k27 ?a28 ?l28 ?c28 ?k28 ?a29 ?l29 ?c29 ?k29 ?a30 ?l30 ?c30 ?k30 ?z0 ?z1 ?z2 ?z3 ?z4 ?z5 ?z6 ?z7 ?z8 ?z9 ?z10 ?z11 ?z12 ?z13 ?z14 ?z15 ?v0 ?aCR ?aRRinit ?iRRinit ?lRRinit ?cRRinit ?kRRinit ?aRRperform ?iRRperform ?lRRperform ?cRRperform ?kRRperform ?pgR ?hdR ?poR ?saR ?mkR ?kcR ?nR0 ?nR1 ?nR2 ?nR3 ?nR4
    (case a0 => k_is); (case l0 => k_is); (case c0 => k_is); (case k0 => k_is); (case a1 => k_is); (case l1 => k_is); (case c1 => k_is); (case k1 => k_is); (case a2 => k_is); (case l2 => k_is); (case c2 => k_is); (case k2 => k_is); (case a3 => k_is); (case l3 => k_is); (case c3 => k_is); (case k3 => k_is); (case a4 => k_is); (case l4 => k_is); (case c4 => k_is); (case k4 => k_is); (case a5 => k_is); (case l5 => k_is); (case c5 => k_is); (case k5 => k_is); (case a6 => k_is); (case l6 => k_is); (case c6 => k_is); (case k6 => k_is); (case a7 => k_is); (case l7 => k_is); (case c7 => k_is); (case k7 => k_is); (case a8 => k_is); (case l8 => k_is); (case c8 => k_is); (case k8 => k_is); (case a9 => k_is); (case l9 => k_is); (case c9 => k_is); (case k9 => k_is); (case a10 => k_is); (case l10 => k_is); (case c10 => k_is); (case k10 => k_is); (case a11 => k_is); (case l11 => k_is); (case c11 => k_is); (case k11 => k_is); (case a12 => k_is); (case l12 => k_is); (case c12 => k_is); (case k12 => k_is); (case a13 => k_is); (case l13 => k_is); (case c13 => k_is); (case k13 => k_is); (case a14 => k_is); (case l14 => k_is); (case c14 => k_is); (case k14 => k_is); (case a15 => k_is); (case l15 => k_is); (case c15 => k_is); (case k15 => k_is); (case a16 => k_is); (case l16 => k_is); (case c16 => k_is); (case k16 => k_is); (case a17 => k_is); (case l17 => k_is); (case c17 => k_is); (case k17 => k_is); (case a18 => k_is); (case l18 => k_is); (case c18 => k_is); (case k18 => k_is); (case a19 => k_is); (case l19 => k_is); (case c19 => k_is); (case k19 => k_is); (case a20 => k_is); (case l20 => k_is); (case c20 => k_is); (case k20 => k_is); (case a21 => k_is); (case l21 => k_is); (case c21 => k_is); (case k21 => k_is); (case a22 => k_is); (case l22 => k_is); (case c22 => k_is); (case k22 => k_is); (case a23 => k_is); (case l23 => k_is); (case c23 => k_is); (case k23 => k_is); (case a24 => k_is); (case l24 => k_is); (case c24 => k_is); (case k24 => k_is); (case a25 => k_is); (case l25 => k_is); (case c25 => k_is); (case k25 => k_is); (case a26 => k_is); (case l26 => k_is); (case c26 => k_is); (case k26 => k_is); (case a27 => k_is); (case l27 => k_is); (case c27 => k_is); (case k27 => k_is); (case a28 => k_is); (case l28 => k_is); (case c28 => k_is); (case k28 => k_is); (case a29 => k_is); (case l29 => k_is); (case c29 => k_is); (case k29 => k_is); (case a30 => k_is); (case l30 => k_is); (case c30 => k_is); (case k30 => k_is); (case z0 => k_is); (case z1 => k_is); (case z2 => k_is); (case z3 => k_is); (case z4 => k_is); (case z5 => k_is); (case z6 => k_is); (case z7 => k_is); (case z8 => k_is); (case z9 => k_is); (case z10 => k_is); (case z11 => k_is); (case z12 => k_is); (case z13 => k_is); (case z14 => k_is); (case z15 => k_is); (case v0 => k_is)
    (case aCR => k_is); (case aRRinit => k_is); (case iRRinit => k_is); (case lRRinit => k_is); (case cRRinit => k_is); (case kRRinit => k_is); (case aRRperform => k_is); (case iRRperform => k_is); (case lRRperform => k_is); (case cRRperform => k_is); (case kRRperform => k_is); (case pgR => k_is); (case hdR => k_is); (case poR => k_is); (case saR => k_is); (case mkR => k_is); (case kcR => k_is); (case nR0 => k_is); (case nR1 => k_is); (case nR2 => k_is); (case nR3 => k_is); (case nR4 => k_is)
