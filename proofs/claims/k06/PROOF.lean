import PyProof.Rows.All
import Wide.All
import OpenK.AllK
import Wide.FinOn
import HandS.ForMost
import HandS.Wide
import HandS.IsInst
import HandS.Flow
import HandS.Evl
import PyProof.StrBlock2
import HandS.Conv
import PySem.Challenge.RW_leastjournal_k06_sizes_and_counts
set_option Elab.async false
set_option linter.all false
set_option maxRecDepth 100000
namespace Lj
open PySem PySem.Spec PyProof.Rows L2
section
variable {X : Cx}
theorem op_mulS : OpR X (binaryOp .Mult) (fun x y H Q => ∃ z n, x = .str z ∧ y = .int n ∧ MulOk z n ∧ Q (.str (Txt.mul z n)) H) := by
  intro pins s σ H x y v u Q I rx ry h
  obtain ⟨z, n, rfl, rfl, ok, q⟩ := h
  obtain ⟨t, rfl⟩ := rx
  obtain ⟨t', rfl⟩ := ry
  exact SB.mul ok fun t2 k => ⟨.str _, H, I.tok _, ⟨_, rfl⟩, q⟩
end
section
variable {X : Cx} {CX : CXT} {k : Nat} {f : Addr} {fd : FuncData} {ps ks : List Str} {sp : Sp} {E : XK} {x : Str} {p pos : Pos} {kws : List Keyword} {tk : TA}
  {g : List Value → List Value → List Value} {gV : List V → List V → List V}
/-- f(k = v, ..), no positional arguments -/
theorem pe_callK0 (F : FnOk X.prog X.w X.K X.mg X.base CX k f fd ps sp) (hr : Room k X.A) (hg : Gl X x) (hm : X.mg x = some (.ref f)) (hk : PySem.W.keepIn X.K (.ref f) = true) (hb : KBinds X.K fd ps ks g gV) (hx : Passes CX X E)
    (hkw : PK X kws tk) (hall : (backToKw pos (keywordEach kws X.env)).all (·.1.isSome) = true := by rfl) (hks : (backToKw pos (keywordEach kws X.env)).filterMap (·.1) = ks := by rfl)
    (hdb : (x == ("__debug__" : Str)) = false := by decide)
    (hpl : ((backTo pos (starEach [] X.env)).any (·.1) || (backToKw pos (keywordEach kws X.env)).any (·.1.isNone)) = false := by rfl) :
    PE X (.Call (.Name x p) [] kws pos) (fun σ H Q => tk σ H fun zs H1 => sp (gV [] zs) H1 Q E) := by
  refine ⟨fun pins s σ H Q I h => ?_⟩
  refine wpAny_Call_Name_kw (ld_glob I hg hm ?_ hdb)
  refine PySem.W.callWith_KW0 (h₀ := X.base) I.ok.mod.kin hk hall (thn (hkw.run pos pins s σ H _ I h) fun ws s2 ⟨zs, H2, I2, rz, q2⟩ => ⟨I2.kIn, ?_⟩) hpl
  rw [hks]
  exact run_fnk (us := []) (vs := []) F hr hb hx I2 .nil rz q2
end
/-! ### heaps -/
theorem same_new {H : Hp} {p : Addr} {o : HO} (h : H p = none) : Same H (upd H p o) := fun b x e => by
  rw [upd_ne (ne_of_none e h)]
  exact e
/-- all but p stands as before -/
def But (p : Addr) (H H' : Hp) : Prop := ∀ b o, b ≠ p → H b = some o → H' b = some o
theorem But.refl (p : Addr) (H : Hp) : But p H H := fun _ _ _ h => h
theorem But.trans {p : Addr} {H H1 H2 : Hp} (a : But p H H1) (b : But p H1 H2) : But p H H2 := fun c o n h => b c o n (a c o n h)
theorem But.same {p : Addr} {H H' : Hp} (s : Same H H') : But p H H' := fun b o _ h => s b o h
theorem But.new {p q : Addr} {H : Hp} {o : HO} (h : H q = none) : But p H (upd H q o) := But.same (same_new h)
theorem But.upd {p : Addr} {H : Hp} {o : HO} : But p H (upd H p o) := fun b x n e => by
  rw [upd_ne n]
  exact e
theorem But.rd {p a : Addr} {H H' : Hp} {u : HO} (b : But p H H') (n : a ≠ p) (h : Rd H a u) : Rd H' a u := by
  rcases h with h | ⟨o, h⟩
  · exact .inl (b _ _ n h)
  · exact .inr ⟨o, b _ _ n h⟩
theorem But.seq {K : PySem.W.Frag} {p a : Addr} {H H' : Hp} {xs : List V} (b : But p H H') (n : a ≠ p) (h : SqL K H a xs) : SqL K H' a xs := by
  rcases h with h | h
  · exact .inl (b.rd n h)
  · exact .inr h
theorem But.tup {K : PySem.W.Frag} {p a : Addr} {H H' : Hp} {xs : List V} (b : But p H H') (n : a ≠ p) (h : SqT K H a xs) : SqT K H' a xs := by
  rcases h with h | h
  · exact .inl (b.rd n h)
  · exact .inr h
/-! ### the urn: two numbers in a list -/
def wide : Nat := 2 ^ 1000
def Urn (H : Hp) (p : Addr) : Prop := ∃ u v : Int, H p = some (.lst [.int u, .int v]) ∧ 0 ≤ u ∧ u.natAbs < wide ∧ 0 ≤ v ∧ v < 2305843009213693951
theorem Urn.but {p q : Addr} {H H' : Hp} (b : But q H H') (n : p ≠ q) (h : Urn H p) : Urn H' p := by
  obtain ⟨u, v, e, r⟩ := h
  exact ⟨u, v, b _ _ n e, r⟩
theorem Urn.same {p : Addr} {H H' : Hp} (b : Same H H') (h : Urn H p) : Urn H' p := by
  obtain ⟨u, v, e, r⟩ := h
  exact ⟨u, v, b _ _ e, r⟩
theorem Urn.ne {p q : Addr} {H : Hp} (h : Urn H p) (e : H q = none) : q ≠ p := by
  obtain ⟨u, v, e', _⟩ := h
  exact (ne_of_none e' e).symm
theorem Urn.free {p q : Addr} {H H' : Hp} (h : Urn H' p) (b : But p H H') (e : H' q = none) : H q = none := by
  have n := h.ne e
  cases z : H q with
  | none => rfl
  | some o => rw [b _ _ n z] at e; cases e
def spUrn (K : PySem.W.Frag) : Sp := fun vs H Q _ => ∃ (a : Addr) (ns : List Int) (k : Int), vs = [.ref a, .int k] ∧ SqL K H a (ns.map V.int) ∧ 0 ≤ k ∧ k ≤ 1000 ∧
  ∀ H' p, Same H H' → H p = none → Urn H' p → Q (.ref p) H'
def spTake : Sp := fun vs H Q _ => ∃ (p : Addr) (n : Int), vs = [.ref p, .int n] ∧ Urn H p ∧ 0 < n ∧ n.natAbs < wide ∧
  ∀ (d : Int) H', 0 ≤ d → d < n → Urn H' p → But p H H' → Q (.int d) H'
def spOf (K : PySem.W.Frag) : Sp := fun vs H Q _ => ∃ (p q : Addr) (xs : List V), vs = [.ref p, .ref q] ∧ Urn H p ∧ q ≠ p ∧ SqL K H q xs ∧ xs ≠ [] ∧ xs.length ≤ 1000 ∧
  ∀ x H', x ∈ xs → Urn H' p → But p H H' → Q x H'
def urnText : Str := "1" ++ Txt.mul "0" 300
theorem urnText_int : PySem.intText? urnText = some (10 ^ 300) := by decide +kernel
theorem urnText_len : urnText.length ≤ 640 := by decide +kernel
theorem mul_ok0 : MulOk "0" 300 := ⟨by decide, fun _ _ => by decide, fun _ _ => by decide⟩
theorem small {n : Nat} (h : n ≤ 1000) : n ≤ sizeLine := Nat.le_of_lt (small1000 h)
theorem own_lt (c : Int) (b : Bool) : 0 ≤ (if c < 0 then -c else c) % 10 ^ 300 * (if b then 1 else 0) ∧ ((if c < 0 then -c else c) % 10 ^ 300 * (if b then 1 else 0)).natAbs < wide := by
  have h1 : 0 ≤ (if c < 0 then -c else c) % (10 ^ 300 : Int) := Int.emod_nonneg _ (by decide)
  have h2 : (if c < 0 then -c else c) % (10 ^ 300 : Int) < 10 ^ 300 := Int.emod_lt_of_pos _ (by decide)
  generalize (if c < 0 then -c else c) % (10 ^ 300 : Int) = z at h1 h2
  have h3 : (10 ^ 300 : Int) < (wide : Int) := by decide +kernel
  have h4 : 0 < wide := by decide +kernel
  cases b with
  | true =>
    rw [if_pos rfl, Int.mul_one]
    exact ⟨h1, by omega⟩
  | false =>
    rw [if_neg Bool.false_ne_true, Int.mul_zero]
    exact ⟨Int.le_refl 0, h4⟩
theorem ind_bd (b : Bool) : -(2 ^ 64) < (if b then 1 else 0 : Int) ∧ (if b then 1 else 0 : Int) < 2 ^ 64 := by
  cases b
  · exact ⟨by decide, by decide⟩
  · exact ⟨by decide, by decide⟩
def nx (v : Int) : Int := (v * 1181783497276652981 + 12345678910987) % 2305843009213693951
theorem nx0 (v : Int) : 0 ≤ nx v := Int.emod_nonneg _ (by decide)
theorem nx1 (v : Int) : nx v < 2305843009213693951 := Int.emod_lt_of_pos _ (by decide)
def ny (v : Int) : Int := (v * 3202034522624059733 + 1) % 2305843009213693951
theorem ny0 (v : Int) : 0 ≤ ny v := Int.emod_nonneg _ (by decide)
theorem ny1 (v : Int) : ny v < 2305843009213693951 := Int.emod_lt_of_pos _ (by decide)
theorem at_int {ns : List Int} {k : Int} (h0 : 0 ≤ k) (h : k < (ns.length : Int)) : ∃ v : Int, v ∈ ns ∧ atI (ns.map V.int) k = some (.int v) := by
  have hk : k.toNat < ns.length := by omega
  have ek : k = ((k.toNat : Nat) : Int) := by omega
  have q : atI (ns.map V.int) ((k.toNat : Nat) : Int) = some (.int ns[k.toNat]) := atI_nat (by rw [List.getElem?_map, List.getElem?_eq_getElem hk] <;> rfl)
  rw [← ek] at q
  exact ⟨ns[k.toNat], List.getElem_mem hk, q⟩
theorem at_any {xs : List V} {k : Int} (h0 : 0 ≤ k) (h : k < (xs.length : Int)) : ∃ v : V, v ∈ xs ∧ atI xs k = some v := by
  have hk : k.toNat < xs.length := by omega
  have ek : k = ((k.toNat : Nat) : Int) := by omega
  have q : atI xs ((k.toNat : Nat) : Int) = some xs[k.toNat] := atI_nat (List.getElem?_eq_getElem hk)
  rw [← ek] at q
  exact ⟨xs[k.toNat], List.getElem_mem hk, q⟩
theorem iteP {c A B : Prop} [Decidable c] (h : c) (a : A) : if decide c = true then A else B := by
  rw [decide_eq_true h]
  exact a
theorem iteN {c A B : Prop} [Decidable c] (h : ¬ c) (b : B) : if decide c = true then A else B := by
  rw [decide_eq_false h]
  exact b
/-! ### rules with the written part named: for the blocks of comprehensions -/
section
variable {X : Cx} {K : PySem.W.Frag}
theorem ix_tupK (h : X.K = K) : IxR X (rIxT K) := h ▸ ix_tup
theorem ix_listK (h : X.K = K) : IxR X (rIxL K) := h ▸ ix_list
def rLenS (K : PySem.W.Frag) : List V → Hp → VK → Prop := fun xs H Q => ∃ p ys, xs = [.ref p] ∧ (SqL K H p ys ∨ SqT K H p ys) ∧ Q (.int ys.length) H
theorem call_len_seqK (h : X.K = K) : CallR X (.builtin "len") (rLenS K) := h ▸ call_len_seq
end
end Lj
set_option Elab.async false
set_option linter.all false
set_option maxRecDepth 100000
namespace Lj
open PySem PySem.Spec PyProof.Rows L2
/-! ### promises of defs that are called where no repr is under way -/
/-- the def at f keeps sp wherever nothing is being shown -/
structure FnG (P : Program) (w : World) (K : PySem.W.Frag) (mg : Str → Option Value) (base : Heap) (k : Nat) (f : Addr) (fd : FuncData) (ps : List Str) (sp : Sp) : Prop where
  len : ∀ vs H Q E, sp vs H Q E → vs.length = ps.length
  run : ∀ (A : Around) (out : List Env) (s : Shared) (H : Hp) (as : Args) (us : List Value) (vs : List V) (Q : VK) (E : XK), A.guards = some [] → Room k A → Env0 P w K mg base A out s H →
    BindsTo s fd as (ps.zip us) → Vals vs us → sp vs H Q E → codeAny (model P w) A (.call (.ref f) as) (CR CX0 out P w H s Q E) s
section
variable {P : Program} {w : World} {K : PySem.W.Frag} {mg : Str → Option Value} {base : Heap} {j k : Nat} {f : Addr} {fd : FuncData} {ps : List Str} {sp sp' : Sp}
theorem FnG.of (F : FnOk P w K mg base CX0 k f fd ps sp) : FnG P w K mg base k f fd ps sp := ⟨F.len, fun A out s H as us vs Q E _ => F.run A out s H as us vs Q E⟩
theorem FnG.up (F : FnG P w K mg base j f fd ps sp) (h : j ≤ k) : FnG P w K mg base k f fd ps sp := ⟨F.len, fun A out s H as us vs Q E g r => F.run A out s H as us vs Q E g (r.mono h)⟩
theorem FnG.weak (F : FnG P w K mg base k f fd ps sp) (h : ∀ vs H Q E, sp' vs H Q E → sp vs H Q E) : FnG P w K mg base k f fd ps sp' :=
  ⟨fun vs H Q E q => F.len vs H Q E (h _ _ _ _ q), fun A out s H as us vs Q E g r e b v q => F.run A out s H as us vs Q E g r e b v (h _ _ _ _ q)⟩
/-- by the def's body, where nothing is being shown -/
theorem FnG.body {x qual : Str} {st : Stmt} {N : List Str} (F : Fun K x qual st f fd) (S : FnScope N ps (defScope st)) (len : ∀ vs H Q E, sp vs H Q E → vs.length = ps.length)
    (hb : ∀ (cdv : Value) (A : Around) (out : List Env) (s : Shared) (H : Hp) (vs : List V) (Q : VK) (E : XK), A.guards = some [] → Room k (A.deeper (envOfC qual (defScope st) s.heap.objs.size f cdv)) → sp vs H Q E →
      ∃ t, PSs (cxOf CX0 P w K mg base N qual (defScope st) f cdv A out s H E).nox (defBody st) t ∧ t { nx := fun _ H' => Q .non H', rt := Q } (start N vs) H) : FnG P w K mg base (k + 1) f fd ps sp := by
  obtain ⟨c0, c1, c2, c3, c4, c5, cd, c6, c7, rfl, look, code⟩ := F.ex
  refine ⟨len, fun A out s H as us vs Q E hg room env bind vals want => ?_⟩
  have ln := len _ _ _ _ want
  have old : ∀ b o, base.get? b = some o → s.heap.get? b = some o := fun b o e => (env.bs b o e).1
  have here : K.In s.heap := env.mod.kin.keeps old
  refine codeAny_call_function room.depth (here _ _ look) rfl S.co S.gen rfl (PySem.W.codeRec_of here code) (bind _ _ _ _ ?_)
  refine wpAny_newFunctionEnv_cells S.kind (fun ⟨n, v⟩ m => (S.par n (List.of_mem_zip m).1).elim .inl fun c => .inr ⟨c, PySem.W.cellsFrom_some _ _ _ (.inl c)⟩) fun en he s1 x => ?_
  subst he
  refine ⟨(env.mod.nolimit.keeps old).keeps x.toInCall.keep, codeAny_func ?_⟩
  obtain ⟨t, rule, holds⟩ := hb cd A out s H vs Q E hg (room.deeper _) want
  have start0 := inv_start (CX := CX0) (E := E) S room.hd env ln vals x
  refine wpAny_mono (rule.nox.run [] s1 (start N vs) H _ start0 holds) (fun r s' z => ?_) fun _ _ z => z
  match r, z with
  | .ret u, ⟨v, σ', H', J, rv, q⟩ => exact ⟨v, H', J.os, J.bare, J.base, J.hok, rv, q⟩
  | .next, ⟨σ', H', J, q⟩ => exact ⟨.non, H', J.os, J.bare, J.base, J.hok, rfl, q⟩
  | .brk, ⟨_, _, _, q⟩ => exact False.elim q
  | .cont, ⟨_, _, _, q⟩ => exact False.elim q
end
/-- where a def stands, under the name x, with its promise -/
structure Cal (P : Program) (w : World) (K : PySem.W.Frag) (mg : Str → Option Value) (base : Heap) (k : Nat) (x : Str) (ps : List Str) (f : Addr) (fd : FuncData) (sp : Sp) : Prop where
  ok : FnG P w K mg base k f fd ps sp
  kp : PySem.W.keepIn K (.ref f) = true
  b : Binds K fd ps []
  g : mg x = some (.ref f)
  lk : ∃ oc od osl, K.lookup f = some ⟨oc, od, .func fd, osl⟩
theorem fun_lk {K : PySem.W.Frag} {x qual : Str} {st : Stmt} {f : Addr} {fd : FuncData} (F : Fun K x qual st f fd) : ∃ oc od osl, K.lookup f = some ⟨oc, od, .func fd, osl⟩ := by
  obtain ⟨c0, c1, c2, c3, c4, c5, cd, c6, c7, e, look, code⟩ := F.ex
  exact ⟨_, _, _, look⟩
def Has (P : Program) (w : World) (K : PySem.W.Frag) (mg : Str → Option Value) (base : Heap) (k : Nat) (x : Str) (ps : List Str) (sp : Sp) : Prop := ∃ f fd, Cal P w K mg base k x ps f fd sp
/-- the def of the text st stands under the name x -/
def At (K : PySem.W.Frag) (mg : Str → Option Value) (x : Str) (st : Stmt) (ps : List Str) : Prop := ∃ f fd, Fun K x x st f fd ∧ Binds K fd ps [] ∧ mg x = some (.ref f)
section
variable {P : Program} {w : World} {K : PySem.W.Frag} {mg : Str → Option Value} {base : Heap} {j k : Nat} {x : Str} {ps : List Str} {sp sp' : Sp}
theorem Has.up (h : Has P w K mg base j x ps sp) (l : j ≤ k) : Has P w K mg base k x ps sp := by
  obtain ⟨f, fd, c⟩ := h
  exact ⟨f, fd, c.ok.up l, c.kp, c.b, c.g, c.lk⟩
theorem Has.weak (h : Has P w K mg base k x ps sp) (i : ∀ vs H Q E, sp' vs H Q E → sp vs H Q E) : Has P w K mg base k x ps sp' := by
  obtain ⟨f, fd, c⟩ := h
  exact ⟨f, fd, c.ok.weak i, c.kp, c.b, c.g, c.lk⟩
theorem Has.by {st : Stmt} {N : List Str} (F : At K mg x st ps) (S : FnScope N ps (defScope st)) (len : ∀ vs H Q E, sp vs H Q E → vs.length = ps.length)
    (hb : ∀ (f : Addr) (cdv : Value) (A : Around) (out : List Env) (s : Shared) (H : Hp) (vs : List V) (Q : VK) (E : XK), A.guards = some [] → Room k (A.deeper (envOfC x (defScope st) s.heap.objs.size f cdv)) → sp vs H Q E →
      ∃ t, PSs (cxOf CX0 P w K mg base N x (defScope st) f cdv A out s H E).nox (defBody st) t ∧ t { nx := fun _ H' => Q .non H', rt := Q } (start N vs) H) : Has P w K mg base (k + 1) x ps sp := by
  obtain ⟨f, fd, F, b, g⟩ := F
  exact ⟨f, fd, .body F S len (hb f), F.kp, b, g, fun_lk F⟩
end
/-- the def behind a name is the text's -/
theorem Cal.text {P : Program} {w : World} {K : PySem.W.Frag} {mg : Str → Option Value} {base : Heap} {k : Nat} {x : Str} {ps qs : List Str} {f : Addr} {fd : FuncData} {sp : Sp} {st : Stmt} (c : Cal P w K mg base k x ps f fd sp) (F : At K mg x st qs) : Fun K x x st f fd := by
  obtain ⟨f2, fd2, F2, _, g2⟩ := F
  have e := c.g.symm.trans g2
  cases e
  obtain ⟨_, _, _, l1⟩ := c.lk
  obtain ⟨_, _, _, l2⟩ := fun_lk F2
  have e := l1.symm.trans l2
  cases e
  exact F2
section
variable {X : Cx} {k : Nat} {x : Str} {ps ks : List Str} {f : Addr} {fd : FuncData} {sp : Sp} {p pos : Pos} {e : Expr} {es : List Expr} {kws : List Keyword} {t tk : TA}
  {g : List Value → List Value → List Value} {gV : List V → List V → List V}
def tCal (sp : Sp) (t : TA) : TE := fun σ H Q => t σ H fun vs H1 => sp vs H1 Q E0
def tCal0 (sp : Sp) : TE := fun _ H Q => sp [] H Q E0
def tCalK (sp : Sp) (gV : List V → List V → List V) (t tk : TA) : TE := fun σ H Q => t σ H fun vs H1 => tk σ H1 fun zs H2 => sp (gV vs zs) H2 Q E0
theorem cal_run {pins : List (Addr × Obj)} {σ : L2.St} {H : Hp} {s : Shared} {Q : VK} {us ws zs : List Value} {vs : List V} {kw : List (Str × Value)} {s2 : Shared} (c : FnG X.prog X.w X.K X.mg X.base k f fd ps sp) (hg : X.A.guards = some []) (hr : Room k X.A)
    (I : Inv X pins σ H s) (bind : BindsTo s fd ⟨us, kw⟩ (ps.zip zs)) (vals : Vals vs zs) (h : sp vs H Q E0) : wpAny (model X.prog X.w) X.A (call (.ref f) us kw) (EP X pins σ Q) X.xe s := by
  refine wpAny_call (codeAny_mono (c.run X.A X.stack s H ⟨us, kw⟩ zs vs Q E0 hg hr I.env0 bind vals h) fun r s' z => ?_)
  match r, z with
  | .error _, z => exact z.elim
  | .ok (.ret _), z => exact I.after z
  | .ok .next, z => exact z.elim
  | .ok .brk, z => exact z.elim
  | .ok .cont, z => exact z.elim
/-- f(e, ..) -/
theorem pe_cal (c : Cal X.prog X.w X.K X.mg X.base k x ps f fd sp) (hg : X.A.guards = some []) (hr : Room k X.A) (gl : Gl X x) (ha : PA X (e :: es) t) (hdb : (x == ("__debug__" : Str)) = false := by decide)
    (he : starEach (e :: es) X.env = (false, eval e X.env) :: starEach es X.env := by rfl) (hpl : (backTo pos (starEach es X.env)).any (·.1) = false := by rfl) :
    PE X (.Call (.Name x p) (e :: es) [] pos) (tCal sp t) := by
  refine ⟨fun pins s σ H Q I h => wpAny_Call_Name_kw (ld_glob I gl c.g ?_ hdb)⟩
  refine PySem.W.callWith_K (h₀ := X.base) I.ok.mod.kin c.kp (thn (ha.run pos pins s σ H _ I h) fun us s1 ⟨vs, H1, I1, r, q⟩ => ⟨I1.kIn, ?_⟩) he hpl
  have ln : (us ++ []).length = ps.length := by
    rw [List.append_nil, ← r.length]
    exact c.ok.len _ _ _ _ q
  have bd := c.b s1 us I1.kIn ln
  rw [List.append_nil] at bd
  exact cal_run (ws := []) (s2 := s1) c.ok hg hr I1 bd r q
/-- f() -/
theorem pe_cal0 (c : Cal X.prog X.w X.K X.mg X.base k x ps f fd sp) (hg : X.A.guards = some []) (hr : Room k X.A) (gl : Gl X x) (hdb : (x == ("__debug__" : Str)) = false := by decide) :
    PE X (.Call (.Name x p) [] [] pos) (tCal0 sp) := by
  refine ⟨fun pins s σ H Q I h => wpAny_Call_Name_kw (ld_glob I gl c.g ?_ hdb)⟩
  have ln := c.ok.len _ _ _ _ h
  exact PySem.W.callWith_K0 I.kIn c.kp (cal_run (ws := []) (zs := []) (s2 := s) c.ok hg hr I (c.b s [] I.kIn ln) .nil h)
/-- f(e, .., n = v, ..) and f(n = v, ..) -/
theorem pe_calK (c : Cal X.prog X.w X.K X.mg X.base k x ps f fd sp) (hb : KBinds X.K fd ps ks g gV) (hg : X.A.guards = some []) (hr : Room k X.A) (gl : Gl X x) (ha : PA X (e :: es) t) (hkw : PK X kws tk)
    (hall : (backToKw pos (keywordEach kws X.env)).all (·.1.isSome) = true := by rfl) (hks : (backToKw pos (keywordEach kws X.env)).filterMap (·.1) = ks := by rfl) (hdb : (x == ("__debug__" : Str)) = false := by decide)
    (he : starEach (e :: es) X.env = (false, eval e X.env) :: starEach es X.env := by rfl)
    (hpl : ((backTo pos (starEach (e :: es) X.env)).any (·.1) || (backToKw pos (keywordEach kws X.env)).any (·.1.isNone)) = false := by rfl) :
    PE X (.Call (.Name x p) (e :: es) kws pos) (tCalK sp gV t tk) := by
  refine ⟨fun pins s σ H Q I h => wpAny_Call_Name_kw (ld_glob I gl c.g ?_ hdb)⟩
  refine PySem.W.callWith_KW (h₀ := X.base) I.ok.mod.kin c.kp hall (thn (ha.run pos pins s σ H _ I h) fun us s1 ⟨vs, H1, I1, r, q⟩ => ?_) hpl he
  refine thn (hkw.run pos pins s1 σ H1 _ I1 q) fun ws s2 ⟨zs, H2, I2, rz, q2⟩ => ⟨I2.kIn, ?_⟩
  rw [hks]
  have r2 := hb.rel r rz
  exact cal_run (ws := []) (s2 := s2) c.ok hg hr I2 (hb.to s2 us ws I2.kIn (by rw [← r2.length]; exact c.ok.len _ _ _ _ q2)) r2 q2
theorem pe_calK0 (c : Cal X.prog X.w X.K X.mg X.base k x ps f fd sp) (hb : KBinds X.K fd ps ks g gV) (hg : X.A.guards = some []) (hr : Room k X.A) (gl : Gl X x) (hkw : PK X kws tk)
    (hall : (backToKw pos (keywordEach kws X.env)).all (·.1.isSome) = true := by rfl) (hks : (backToKw pos (keywordEach kws X.env)).filterMap (·.1) = ks := by rfl) (hdb : (x == ("__debug__" : Str)) = false := by decide)
    (hpl : ((backTo pos (starEach [] X.env)).any (·.1) || (backToKw pos (keywordEach kws X.env)).any (·.1.isNone)) = false := by rfl) :
    PE X (.Call (.Name x p) [] kws pos) (tCalK sp gV tNil tk) := by
  refine ⟨fun pins s σ H Q I h => wpAny_Call_Name_kw (ld_glob I gl c.g ?_ hdb)⟩
  refine PySem.W.callWith_KW0 (h₀ := X.base) I.ok.mod.kin c.kp hall (thn (hkw.run pos pins s σ H _ I h) fun ws s2 ⟨zs, H2, I2, rz, q2⟩ => ⟨I2.kIn, ?_⟩) hpl
  rw [hks]
  have r2 := hb.rel (vs := []) (us := []) .nil rz
  exact cal_run (ws := []) (s2 := s2) c.ok hg hr I2 (hb.to s2 [] ws I2.kIn (by rw [← r2.length]; exact c.ok.len _ _ _ _ q2)) r2 q2
end
/-! ### repr of data -/
theorem repr_flat {P : Program} {w : World} {A : Around} {E : Value → Shared → Prop} {s : Shared} {u : Value} {d : PyData} {as : List Addr} {Q : Value → Shared → Prop} (r : Reads s.heap u d as) (sh : d.showable = true) (nd : d.hasDict = false) (hg : A.guards = some []) (hu : A.units + (d.depth + 1) < cLine) (sz : d.shown.length ≤ sizeLine)
    (hQ : ∀ h' t tk, (∀ b o, s.heap.get? b = some o → h'.get? b = some o) → Q (.str d.shown t) { s with heap := h', toks := tk }) : wpAny (model P w) A (call (.builtin "repr") [u]) Q E s := by
  have no : ∀ b o, s.heap.get? b = some o → s.heap.get? b = some o := fun _ _ e => e
  cases r with
  | none => exact _root_.PySem.P.repr_of_none (hQ s.heap s.toks (s.toks + 1) no)
  | bool b =>
    refine _root_.PySem.P.repr_of_bool ?_
    cases b
    · exact hQ s.heap s.toks (s.toks + 1) no
    · exact hQ s.heap s.toks (s.toks + 1) no
  | int i t => exact _root_.PySem.P.repr_of_int (of_decide_eq_true sh) (hQ s.heap s.toks (s.toks + 1) no)
  | str x t => exact _root_.PySem.P.repr_of_str (hQ s.heap s.toks (s.toks + 1) no) sz
  | list a b c d => exact PySem.repr_of_reads' (.list a b c d) sh (fun z => by rw [nd] at z; cases z) hg hu no (fun h' t tk z => hQ h' t tk z) sz
  | tuple a b c d => exact PySem.repr_of_reads' (.tuple a b c d) sh (fun z => by rw [nd] at z; cases z) hg hu no (fun h' t tk z => hQ h' t tk z) sz
  | dict a b c d e => cases nd
section
variable {X : Cx} {k : Nat}
/-- repr(x), x data without dicts -/
theorem call_reprD (hg : X.A.guards = some []) (hr : Room k X.A) : CallR X (.builtin "repr") (fun xs H Q => ∃ x d, xs = [x] ∧ Dp X.K H x d ∧ d.showable = true ∧ d.hasDict = false ∧ d.depth ≤ 64 ∧ d.shown.length ≤ sizeLine ∧ Q (.str d.shown) H) := by
  intro pins s σ H xs us Q I r h
  obtain ⟨x, d, rfl, dp, sh, nd, de, sz, q⟩ := h
  obtain ⟨u, rfl, ru⟩ := r.one
  obtain ⟨as, rd⟩ := Dp.reads I d x u dp ru
  have un := hr.un
  exact repr_flat rd sh nd hg (by omega) sz fun h' t tk keep => ⟨.str _, H, I.kept keep, ⟨_, rfl⟩, q⟩
end
/-! ### the end: the law's promise where the claim's caller calls it -/
theorem end_call {P : Program} {w : World} {K : PySem.W.Frag} {mg mb : Str → Option Value} {k : Nat} {fa a : Addr} {fd : FuncData} {x : Str} {sp : Sp} {s : Shared} {vs : List Value} {ns : List Int}
    (kin : K.In s.heap) (glob : s.heap.Ns mainGlobals mg) (blt : s.heap.Ns builtinsNs mb) (same : ∀ x : Str, x ≠ "__name__" → mb x = bootBuiltins x) (lim : s.heap.NoLimit) (gens : s.gens = #[])
    (obj : s.heap.get? a = some { cls := .type "list", data := .seq vs.toArray }) (numb : IntsAre vs ns) (short : ns.length ≤ sizeLine) (room : Room k callerA)
    (F : ∀ base : Heap, K.In base → base.Ns mainGlobals mg → FnG P w K mg base k fa fd [x] sp) (bind : ∀ (s : Shared) (u : Value), BindsTo s fd ⟨[u], []⟩ [(x, u)])
    (want : ∀ H : Hp, Only H → SqL K H a (ns.map V.int) → sp [.ref a] H (fun v _ => v = .bl true) fun _ _ _ => False) :
    codeAny (model P w) callerA (.call (.ref fa) ⟨[.ref a], []⟩) (fun r s' => r = .ok (.ret (.bool true)) ∧ OldK s.heap s'.heap ∧ s'.os = s.os ∧ AllBare s'.gens) s := by
  have vals := vals_ints numb
  -- one step: whatever part H of the script's object is tracked
  have go : ∀ H : Hp, Only H → SqL K H a (ns.map V.int) → HOk P w H s.heap → (∀ b, H b ≠ none → b = a ∧ K.lookup a = none) →
      codeAny (model P w) callerA (.call (.ref fa) ⟨[.ref a], []⟩) (fun r s' => r = .ok (.ret (.bool true)) ∧ OldK s.heap s'.heap ∧ s'.os = s.os ∧ AllBare s'.gens) s := by
    intro H only sq hok at1
    have untracked : ∀ {b : Addr} {o : Obj} {es : Array DictEntry} {n : Nat}, s.heap.get? b = some o → o.data = .dict es n → H b = none := fun {b o es n} e d => by
      by_cases z : H b = none
      · exact z
      · have e2 := (at1 b z).1
        subst e2
        rw [obj] at e
        cases e
        cases d
    have names : ∀ {b : Addr} {m : Str → Option Value}, s.heap.Ns b m → (hidT s.heap H).Ns b m := fun {b m} ⟨o, es, n, e, d, r⟩ => ⟨o, es, n, hidT_get e (untracked e d), d, r⟩
    have kin2 : K.In (hidT s.heap H) := fun b o e => by
      refine hidT_get (kin b o e) ?_
      by_cases z : H b = none
      · exact z
      · obtain ⟨z1, z2⟩ := at1 b z
        rw [z1, z2] at e
        cases e
    obtain ⟨mc, l1, l2⟩ := lim
    have env : Env0 P w K mg (hidT s.heap H) callerA [] s H :=
      ⟨rfl, ⟨kin2, names glob, ⟨mb, names blt, same⟩, ⟨mc, names l1, l2⟩⟩, fun b o e => of_hidT e, Nat.le_of_eq (hidT_size _ _), trivial, fun b m => absurd (show b ∈ ([] : List Addr) from m) List.not_mem_nil, hok, AllBare.of_eq gens⟩
    refine codeAny_mono ((F _ kin2 (names glob)).run callerA [] s H ⟨[.ref a], []⟩ [.ref a] [.ref a] _ _ rfl room env (bind s (.ref a)) (.cons rfl .nil) (want H only sq)) fun r s' z => ?_
    match r, z with
    | .error _, z => exact z.elim
    | .ok .next, z => exact z.elim
    | .ok .brk, z => exact z.elim
    | .ok .cont, z => exact z.elim
    | .ok (.ret u), ⟨v, H', os, bare, un, hok2, rv, q⟩ =>
      have q : v = .bl true := q
      subst q
      obtain rfl : u = Value.bool true := rv
      refine ⟨rfl, OldK.of_keep fun b o e => ?_, os, bare⟩
      by_cases z : H b = none
      · exact un.keep b o e z (fun m => absurd (show b ∈ ([] : List Addr) from m) List.not_mem_nil) List.not_mem_nil
      · rcases only b with y | ⟨ob, xs, y⟩
        · exact absurd y z
        · have e1 := (hok b _ y).1
          have e2 := (hok2 b _ (un.frzs b ob _ y)).1
          rw [e] at e1
          cases e1
          exact e2
  by_cases hk : K.lookup a = none
  · refine go (fun b => if b = a then some (.frz { cls := .type "list", data := .seq vs.toArray } (.lst (ns.map V.int))) else none) (fun b => ?_) (.inl (.inr ⟨_, if_pos rfl⟩)) (fun b u e => ?_) (fun b e => ?_)
    · by_cases y : b = a
      · exact .inr ⟨_, _, if_pos y⟩
      · exact .inl (if_neg y)
    · by_cases y : b = a
      · cases (if_pos y).symm.trans e
        subst y
        exact ⟨obj, by rw [List.length_map]; exact short, vs, _, vals, obj⟩
      · cases (if_neg y).symm.trans e
    · by_cases y : b = a
      · exact ⟨y, hk⟩
      · exact absurd (if_neg y) e
  · obtain ⟨o, ho⟩ := Option.ne_none_iff_exists'.mp hk
    have e := kin a o ho
    rw [obj] at e
    cases e
    refine go (fun _ => none) (fun _ => .inl rfl) (.inr ⟨_, vs.toArray, _, ho, rfl, rfl, rfl, ?_, vals⟩) (fun b u e => by cases e) (fun b e => absurd rfl e)
    rw [List.size_toArray, numb.length]
    exact short
theorem walk_G {l : PySem.W.OpenLaw} {n k : Nat} {q : Program} {loose : List Str} {XP : (Str → Option Value) → Heap → Prop} {YP : World → Heap → Prop} {d : DefRec} {K : Params → PySem.W.Frag} {sp : PySem.W.Frag → Sp} {x : Str}
    (hn : l.most = some n) (hn2 : n ≤ sizeLine) (hdf : d.params.defaults = []) (hr : Room k callerA) (hY : ∀ (w : World) (h : Heap), YP w h → (K w.params).In h)
    (F : ∀ (w : World) (mg : Str → Option Value) (fa : Addr) (h : Heap), (K w.params).In h → h.Ns mainGlobals mg → mg d.name = some (.ref fa) →
      ∃ fd : FuncData, (∀ (s : Shared) (u : Value), BindsTo s fd ⟨[u], []⟩ [(x, u)]) ∧ ∀ base : Heap, (K w.params).In base → base.Ns mainGlobals mg → FnG l.prog w (K w.params) mg base k fa fd [x] (sp (K w.params)))
    (want : ∀ (K : PySem.W.Frag) (H : Hp) (a : Addr) (ns : List Int), ns.length ≤ n → Only H → SqL K H a (ns.map V.int) → sp K [.ref a] H (fun v _ => v = .bl true) fun _ _ _ => False) :
    PySem.W.WalkO q loose XP YP l.row.toRowW d [] (fun f vs => PySem.call f vs) := by
  refine Att.attach_call hn hdf fun w s0 s mg mb fa o pm cd doc a vs ns G Y _ _ _ hmg obj numb short gens => ?_
  have kin := hY w _ Y
  obtain ⟨fd, bind, ok⟩ := F w mg fa _ kin G.T.g hmg
  exact end_call kin G.T.g G.T.b G.T.builtins G.T.nolimit gens obj numb (Nat.le_trans short hn2) hr ok bind fun H o sq => want _ H a ns short o sq
end Lj
set_option Elab.async false
set_option linter.all false
set_option maxRecDepth 100000
namespace Lj
open PySem PySem.Spec PyProof.Rows L2
/-- the built-ins are not hidden by names of the module -/
structure Bl (mg : Str → Option Value) : Prop where
  len_ : mg "len" = none
  abs_ : mg "abs" = none
  int_ : mg "int" = none
  range_ : mg "range" = none
  max_ : mg "max" = none
  min_ : mg "min" = none
  all_ : mg "all" = none
  sum_ : mg "sum" = none
  list_ : mg "list" = none
  tuple_ : mg "tuple" = none
  isinstance_ : mg "isinstance" = none
  bool_ : mg "bool" = none
  repr_ : mg "repr" = none
  enumerate_ : mg "enumerate" = none
  zip_ : mg "zip" = none
  divmod_ : mg "divmod" = none
theorem Has.none {P : Program} {w : World} {K : PySem.W.Frag} {mg : Str → Option Value} {base : Heap} {k : Nat} {x : Str} {ps : List Str} {sp : Sp} {st : Stmt} (F : At K mg x st ps) (no : ∀ vs H Q E, ¬ sp vs H Q E) : Has P w K mg base k x ps sp := by
  obtain ⟨f, fd, F, b, g⟩ := F
  exact ⟨f, fd, ⟨fun vs H Q E h => absurd h (no vs H Q E), fun A out s H as us vs Q E _ _ _ _ _ h => absurd h (no vs H Q E)⟩, F.kp, b, g, fun_lk F⟩
/-! ### trees: instructions -/
inductive Tr where
  | op (w : Str) (as : List Int)
  | loop (k : Int) (b : List Tr)
mutual
def Tr.len : Tr → Int
  | .op _ _ => 1
  | .loop k b => k * lens b
def lens : List Tr → Int
  | [] => 0
  | t :: r => t.len + lens r
end
mutual
def Tr.inn : Tr → Int
  | .op _ _ => 0
  | .loop _ b => (b.length : Int) + inns b
def inns : List Tr → Int
  | [] => 0
  | t :: r => t.inn + inns r
end
def szs (b : List Tr) : Int := (b.length : Int) + inns b
mutual
def Tr.dep : Tr → Int
  | .op _ _ => 0
  | .loop _ b => 1 + deps b
def deps : List Tr → Int
  | [] => 0
  | t :: r => if t.dep > deps r then t.dep else deps r
end
mutual
def Tr.cnt (w : Str) : Tr → Int
  | .op u _ => if u = w then 1 else 0
  | .loop k b => k * cnts w b
def cnts (w : Str) : List Tr → Int
  | [] => 0
  | t :: r => t.cnt w + cnts w r
end
mutual
/-- what is executed, one after another -/
def Tr.ex : Tr → List Tr
  | .op w as => [.op w as]
  | .loop k b => (List.replicate k.toNat (exs b)).flatten
def exs : List Tr → List Tr
  | [] => []
  | t :: r => t.ex ++ exs r
end
mutual
/-- loops at most n deep, the words of the others not loop -/
def Tr.wf : Tr → Nat → Prop
  | .op w _, _ => w ≠ "loop"
  | .loop _ _, 0 => False
  | .loop k b, n + 1 => 0 ≤ k ∧ k ≤ 10 ^ 18 ∧ b.length ≤ 1000 ∧ wfs b n
def wfs : List Tr → Nat → Prop
  | [], _ => True
  | t :: r, n => t.wf n ∧ wfs r n
end
/-- a body for functions that may go n - 1 loops down -/
def okB : Nat → List Tr → Prop
  | 0, _ => False
  | n + 1, b => wfs b n ∧ b.length ≤ 1000
theorem lens_map : ∀ b : List Tr, lens b = (b.map Tr.len).sum
  | [] => rfl
  | t :: r => by rw [lens, lens_map r, List.map_cons, List.sum_cons]
theorem inns_map : ∀ b : List Tr, inns b = (b.map Tr.inn).sum
  | [] => rfl
  | t :: r => by rw [inns, inns_map r, List.map_cons, List.sum_cons]
theorem cnts_map (w : Str) : ∀ b : List Tr, cnts w b = (b.map (Tr.cnt w)).sum
  | [] => rfl
  | t :: r => by rw [cnts, cnts_map w r, List.map_cons, List.sum_cons]
theorem exs_map : ∀ b : List Tr, exs b = (b.map Tr.ex).flatten
  | [] => rfl
  | t :: r => by rw [exs, exs_map r, List.map_cons, List.flatten_cons]
theorem wfs_get : ∀ {b : List Tr} {n i : Nat} {t : Tr}, wfs b n → b[i]? = some t → t.wf n
  | [], _, _, _, _, e => by simp at e
  | t :: r, n, 0, u, h, e => by
    cases e
    rw [wfs] at h
    exact h.1
  | t :: r, n, i + 1, u, h, e => by
    rw [wfs] at h
    exact wfs_get (i := i) h.2 e
theorem wfs_all : ∀ {b : List Tr} {n : Nat}, (∀ t ∈ b, t.wf n) → wfs b n
  | [], _, _ => by rw [wfs]; trivial
  | t :: r, n, h => by
    rw [wfs]
    exact ⟨h t List.mem_cons_self, wfs_all fun u m => h u (List.mem_cons_of_mem _ m)⟩
theorem okB_loop {b b' : List Tr} {n i : Nat} {k : Int} (h : okB (n + 1) b) (e : b[i]? = some (.loop k b')) : 0 ≤ k ∧ k ≤ 10 ^ 18 ∧ okB n b' := by
  have z := wfs_get h.1 e
  cases n with
  | zero => rw [Tr.wf] at z; exact z.elim
  | succ m =>
    rw [Tr.wf] at z
    exact ⟨z.1, z.2.1, z.2.2.2, z.2.2.1⟩
theorem okB_op {b : List Tr} {n i : Nat} {w : Str} {as : List Int} (h : okB (n + 1) b) (e : b[i]? = some (.op w as)) : w ≠ "loop" := by
  have z := wfs_get h.1 e
  rw [Tr.wf] at z
  exact z
theorem at0 {x : V} {xs : List V} : atI (x :: xs) 0 = some x := atI_nat (j := 0) rfl
theorem sum_next {f : Tr → Int} {b : List Tr} {i : Nat} {t : Tr} (e : b[i]? = some t) : ((b.take (i + 1)).map f).sum = ((b.take i).map f).sum + f t := by
  rw [List.take_add_one, e, List.map_append, List.sum_append]
  show _ + (f t + 0) = _
  rw [Int.add_zero]
theorem map_next {α : Type} {f : Tr → α} {b : List Tr} {i : Nat} {t : Tr} (e : b[i]? = some t) : (b.take (i + 1)).map f = (b.take i).map f ++ [f t] := by
  rw [List.take_add_one, e, List.map_append]
  rfl
/-! ### trees in the heap -/
def Kt (H H' : Hp) : Prop := ∀ a xs, Rd H a (.tup xs) → Rd H' a (.tup xs)
theorem Kt.refl (H : Hp) : Kt H H := fun _ _ h => h
theorem Kt.trans {H H1 H2 : Hp} (a : Kt H H1) (b : Kt H1 H2) : Kt H H2 := fun c o h => b c o (a c o h)
theorem Kt.same {H H' : Hp} (s : Same H H') : Kt H H' := fun a xs h => by
  rcases h with h | ⟨o, h⟩
  · exact .inl (s _ _ h)
  · exact .inr ⟨o, s _ _ h⟩
theorem Kt.but {p : Addr} {H H' : Hp} {xs : List V} (b : But p H H') (e : H p = some (.lst xs)) : Kt H H' := fun a ys h => by
  refine b.rd (fun z => ?_) h
  subst z
  rcases h with h | ⟨o, h⟩
  · rw [e] at h; cases h
  · rw [e] at h; cases h
theorem Urn.kt {p : Addr} {H H' : Hp} (u : Urn H p) (b : But p H H') : Kt H H' := by
  obtain ⟨_, _, e, _⟩ := u
  exact Kt.but b e
theorem Kt.sq {K : PySem.W.Frag} {H H' : Hp} {a : Addr} {xs : List V} (k : Kt H H') (h : SqT K H a xs) : SqT K H' a xs := by
  rcases h with h | h
  · exact .inl (k _ _ h)
  · exact .inr h
mutual
def TrAt (K : PySem.W.Frag) (H : Hp) : Tr → V → Prop
  | .op w as, v => ∃ a, v = .ref a ∧ SqT K H a (.str w :: as.map V.int)
  | .loop k b, v => ∃ a c vs, v = .ref a ∧ SqT K H a [.str "loop", .int k, .ref c] ∧ SqT K H c vs ∧ TrsAt K H b vs
def TrsAt (K : PySem.W.Frag) (H : Hp) : List Tr → List V → Prop
  | [], vs => vs = []
  | t :: r, vs => ∃ v us, vs = v :: us ∧ TrAt K H t v ∧ TrsAt K H r us
end
def BodyAt (K : PySem.W.Frag) (H : Hp) (b : List Tr) (v : V) : Prop := ∃ c vs, v = .ref c ∧ SqT K H c vs ∧ TrsAt K H b vs
mutual
theorem TrAt.kt {K : PySem.W.Frag} {H H' : Hp} (k : Kt H H') : ∀ (t : Tr) (v : V), TrAt K H t v → TrAt K H' t v
  | .op w as, v, h => by
    rw [TrAt] at h ⊢
    obtain ⟨a, e, s⟩ := h
    exact ⟨a, e, k.sq s⟩
  | .loop n b, v, h => by
    rw [TrAt] at h ⊢
    obtain ⟨a, c, vs, e, s, s2, r⟩ := h
    exact ⟨a, c, vs, e, k.sq s, k.sq s2, TrsAt.kt k b vs r⟩
theorem TrsAt.kt {K : PySem.W.Frag} {H H' : Hp} (k : Kt H H') : ∀ (b : List Tr) (vs : List V), TrsAt K H b vs → TrsAt K H' b vs
  | [], vs, h => by
    rw [TrsAt] at h ⊢
    exact h
  | t :: r, vs, h => by
    rw [TrsAt] at h ⊢
    obtain ⟨v, us, e, a, b⟩ := h
    exact ⟨v, us, e, TrAt.kt k t v a, TrsAt.kt k r us b⟩
end
theorem BodyAt.kt {K : PySem.W.Frag} {H H' : Hp} {b : List Tr} {v : V} (k : Kt H H') (h : BodyAt K H b v) : BodyAt K H' b v := by
  obtain ⟨c, vs, e, s, r⟩ := h
  exact ⟨c, vs, e, k.sq s, TrsAt.kt k b vs r⟩
theorem TrsAt.length {K : PySem.W.Frag} {H : Hp} : ∀ {b : List Tr} {vs : List V}, TrsAt K H b vs → vs.length = b.length
  | [], vs, h => by
    rw [TrsAt] at h
    rw [h]
    rfl
  | t :: r, vs, h => by
    rw [TrsAt] at h
    obtain ⟨v, us, rfl, _, k⟩ := h
    rw [List.length_cons, List.length_cons, TrsAt.length k]
theorem TrsAt.get {K : PySem.W.Frag} {H : Hp} : ∀ {b : List Tr} {vs : List V} {i : Nat} {v : V}, TrsAt K H b vs → vs[i]? = some v → ∃ t, b[i]? = some t ∧ TrAt K H t v
  | [], vs, i, v, h, e => by
    rw [TrsAt] at h
    rw [h] at e
    simp at e
  | t :: r, vs, 0, v, h, e => by
    rw [TrsAt] at h
    obtain ⟨v', us, rfl, a, _⟩ := h
    cases e
    exact ⟨t, rfl, a⟩
  | t :: r, vs, i + 1, v, h, e => by
    rw [TrsAt] at h
    obtain ⟨v', us, rfl, _, k⟩ := h
    exact TrsAt.get (i := i) k e
theorem TrsAt.append {K : PySem.W.Frag} {H : Hp} : ∀ {b c : List Tr} {vs us : List V}, TrsAt K H b vs → TrsAt K H c us → TrsAt K H (b ++ c) (vs ++ us)
  | [], c, vs, us, h, k => by
    rw [TrsAt] at h
    rw [h]
    exact k
  | t :: r, c, vs, us, h, k => by
    rw [TrsAt] at h
    obtain ⟨v, ws, rfl, a, l⟩ := h
    show TrsAt K H (t :: (r ++ c)) (v :: (ws ++ us))
    rw [TrsAt]
    exact ⟨v, _, rfl, a, TrsAt.append l k⟩
theorem TrsAt.one {K : PySem.W.Frag} {H : Hp} {t : Tr} {v : V} (h : TrAt K H t v) : TrsAt K H [t] [v] := by
  rw [TrsAt]
  exact ⟨v, [], rfl, h, by rw [TrsAt]⟩
theorem TrsAt.nil {K : PySem.W.Frag} {H : Hp} : TrsAt K H [] [] := by rw [TrsAt]
/-! ### promises about trees -/
def spTI (K : PySem.W.Frag) (ok : List Tr → Prop) (f : List Tr → Int) : Sp := fun vs H Q _ => ∃ v b, vs = [v] ∧ BodyAt K H b v ∧ ok b ∧ ∀ H', Same H H' → Q (.int (f b)) H'
def spII (K : PySem.W.Frag) (ok : Tr → Prop) (f : Tr → Int) : Sp := fun vs H Q _ => ∃ v t, vs = [v] ∧ TrAt K H t v ∧ ok t ∧ ∀ H', Same H H' → Q (.int (f t)) H'
def spWI (K : PySem.W.Frag) (ok : List Tr → Prop) : Sp := fun vs H Q _ => ∃ v b w, vs = [v, .str w] ∧ BodyAt K H b v ∧ ok b ∧ w ≠ "loop" ∧ ∀ H', Same H H' → Q (.int (cnts w b)) H'
theorem same_upd {H H' : Hp} {D : Addr} {o : HO} (s : Same H H') (n : H D = none) : Same H (upd H' D o) := fun b x e => by
  rw [upd_ne (ne_of_none e n)]
  exact s _ _ e
end Lj
namespace Lj
mutual
theorem Tr.dep_nn : ∀ t : Tr, 0 ≤ t.dep
  | .op _ _ => by rw [Tr.dep]; decide
  | .loop _ b => by
    rw [Tr.dep]
    have := deps_nn b
    omega
theorem deps_nn : ∀ b : List Tr, 0 ≤ deps b
  | [] => by rw [deps]; decide
  | t :: r => by
    rw [deps]
    have h1 := Tr.dep_nn t
    have h2 := deps_nn r
    split <;> omega
end
end Lj
set_option Elab.async false
set_option linter.all false
set_option maxRecDepth 100000
namespace Lj
open PySem PySem.Spec PyProof.Rows L2
def prs : List Int := [2, 2, 3, 3, 5, 7, 7, 11, 13, 97, 251, 9973, 10007]
theorem prs_bd {q : Int} (h : q ∈ prs) : 2 ≤ q ∧ q ≤ 10007 := by
  have z : (prs.all fun q => decide (2 ≤ q) && decide (q ≤ 10007)) = true := by decide
  have k := List.all_eq_true.mp z q h
  rw [Bool.and_eq_true] at k
  exact ⟨of_decide_eq_true k.1, of_decide_eq_true k.2⟩
def spPrimeU : Sp := fun vs H Q _ => ∃ p : Addr, vs = [.ref p] ∧ Urn H p ∧ ∀ (q : Int) H', q ∈ prs → Urn H' p → But p H H' → Q (.int q) H'
theorem wide_big {n : Int} (h : n ≤ 10 ^ 40) (h0 : 0 ≤ n) : n.natAbs < wide := by
  have z : (10 ^ 40 : Nat) < wide := by decide +kernel
  omega
/-! ### list.count of texts -/
def eqs (z : Str) (v : Value) : Bool := match v with
  | .str y _ => y == z
  | _ => false
theorem count_strs {z : Str} : ∀ {us : List Value} {ss : List Str}, Vals (ss.map V.str) us → us.countP (eqs z) = ss.count z
  | _, [], .nil => rfl
  | _, s :: ss, .cons ⟨t, rfl⟩ r => by
    rw [List.countP_cons, count_strs r, List.count_cons]
    rfl
theorem mem_strs : ∀ {us : List Value} {ss : List Str} {u : Value}, Vals (ss.map V.str) us → u ∈ us → ∃ s t, u = .str s t
  | _, [], _, .nil, m => by cases m
  | _, s :: ss, u, .cons ⟨t, rfl⟩ r, m => by
    rcases List.mem_cons.mp m with rfl | m
    · exact ⟨s, t, rfl⟩
    · exact mem_strs r m
theorem mt_count_str {X : Cx} : MtR X "list.count" (fun x xs H Q => ∃ (p : Addr) (ss : List Str) (z : Str), x = .ref p ∧ xs = [.str z] ∧ SqL X.K H p (ss.map V.str) ∧ Q (.int (ss.count z : Nat)) H) := by
  intro pins s σ H x xs v us Q I rx rxs h
  obtain ⟨p, ss, z, rfl, rfl, sq, q⟩ := h
  cases rx
  obtain ⟨u, rfl, ⟨t, rfl⟩⟩ := rxs.one
  obtain ⟨its, rv, ⟨⟨cls, dd, data, sl⟩, n, ho, hc, hdn, hd⟩, hlen⟩ := I.list sq
  simp only at hc hd
  subst hc hd
  refine call_meets PySem.F.slot_list_count ⟨_, ho, rfl⟩ PySem.F.entry_list_count (PySem.F.args_list_count_2 _ _) (SeqAt.list_countAt p its.toArray n dd sl (.str z t) (eqs z)) ⟨ho, fun y hy => ?_, ?_⟩
  · obtain ⟨a, b, rfl⟩ := mem_strs rv (by simpa using hy)
    exact eqAt_V (y := .str a) (x := .str z) ⟨b, rfl⟩ ⟨t, rfl⟩ rfl rfl
  · refine ⟨.int (ss.count z : Nat), H, I.tok _, ⟨s.toks, ?_⟩, q⟩
    rw [← count_strs rv]
/-! ### instructions as the laws draw them -/
def W7 : List Str := ["set", "copy", "add", "scale", "swap", "read", "write"]
theorem W7_noloop {w : Str} (h : w ∈ W7) : w ≠ "loop" := by
  have z : (W7.all fun w => !(w == ("loop" : Str))) = true := by decide
  have k := List.all_eq_true.mp z w h
  intro e
  subst e
  revert k
  decide
theorem W7_ok {w : Str} (h : w ∈ W7) : PyData.strOk w = true := by
  have z : (W7.all fun w => PyData.strOk w) = true := by decide +kernel
  exact List.all_eq_true.mp z w h
def GoodOp (p n : Int) (w : Str) (as : List Int) : Prop :=
  ((w = "set" ∨ w = "scale") ∧ ∃ x c, as = [x, c] ∧ 0 ≤ x ∧ x < n ∧ 0 ≤ c ∧ c < p) ∨
  ((w = "read" ∨ w = "write") ∧ ∃ x, as = [x] ∧ 0 ≤ x ∧ x < n) ∨
  ((w = "copy" ∨ w = "swap") ∧ ∃ x y, as = [x, y] ∧ 0 ≤ x ∧ x < n ∧ 0 ≤ y ∧ y < n ∧ x ≠ y) ∨
  (w = "add" ∧ ∃ x y c, as = [x, y, c] ∧ 0 ≤ x ∧ x < n ∧ 0 ≤ y ∧ y < n ∧ x ≠ y ∧ 1 ≤ c ∧ c < p)
theorem GoodOp.w7 {p n : Int} {w : Str} {as : List Int} (h : GoodOp p n w as) : w ∈ W7 := by
  rcases h with ⟨rfl | rfl, _⟩ | ⟨rfl | rfl, _⟩ | ⟨rfl | rfl, _⟩ | ⟨rfl, _⟩ <;> decide
mutual
/-- drawn: at most l instructions, loops at most d deep, half as many within; G: of the others, R: of the rounds -/
def Tr.made (G : Str → List Int → Prop) (R : Int → Prop) : Tr → Nat → Nat → Prop
  | .op w as, _, _ => G w as
  | .loop _ _, _, 0 => False
  | .loop k b, l, d + 1 => R k ∧ b.length ≤ l / 2 ∧ mades G R b (l / 2) d
def mades (G : Str → List Int → Prop) (R : Int → Prop) : List Tr → Nat → Nat → Prop
  | [], _, _ => True
  | t :: r, l, d => t.made G R l d ∧ mades G R r l d
end
theorem mades_append {G : Str → List Int → Prop} {R : Int → Prop} : ∀ {b c : List Tr} {l d : Nat}, mades G R b l d → mades G R c l d → mades G R (b ++ c) l d
  | [], _, _, _, _, k => k
  | t :: r, c, l, d, h, k => by
    rw [mades] at h
    show mades G R (t :: (r ++ c)) l d
    rw [mades]
    exact ⟨h.1, mades_append h.2 k⟩
theorem mades_one {G : Str → List Int → Prop} {R : Int → Prop} {t : Tr} {l d : Nat} (h : t.made G R l d) : mades G R [t] l d := by
  rw [mades, mades]
  exact ⟨h, trivial⟩
theorem mades_nil {G : Str → List Int → Prop} {R : Int → Prop} {l d : Nat} : mades G R [] l d := by
  rw [mades]
  trivial
mutual
theorem Tr.made_wf {G : Str → List Int → Prop} {R : Int → Prop} (hG : ∀ w as, G w as → w ∈ W7) (hR : ∀ k, R k → 0 ≤ k ∧ k ≤ 10 ^ 18) : ∀ (t : Tr) (l d : Nat), l ≤ 1000 → t.made G R l d → t.wf d
  | .op w as, l, d, _, h => by
    rw [Tr.made] at h
    rw [Tr.wf]
    exact W7_noloop (hG w as h)
  | .loop k b, l, 0, _, h => by
    rw [Tr.made] at h
    exact h.elim
  | .loop k b, l, d + 1, hl, h => by
    rw [Tr.made] at h
    rw [Tr.wf]
    exact ⟨(hR k h.1).1, (hR k h.1).2, by omega, mades_wf hG hR b (l / 2) d (by omega) h.2.2⟩
theorem mades_wf {G : Str → List Int → Prop} {R : Int → Prop} (hG : ∀ w as, G w as → w ∈ W7) (hR : ∀ k, R k → 0 ≤ k ∧ k ≤ 10 ^ 18) : ∀ (b : List Tr) (l d : Nat), l ≤ 1000 → mades G R b l d → wfs b d
  | [], _, _, _, _ => by rw [wfs]; trivial
  | t :: r, l, d, hl, h => by
    rw [mades] at h
    rw [wfs]
    exact ⟨Tr.made_wf hG hR t l d hl h.1, mades_wf hG hR r l d hl h.2⟩
end
/-- the most steps that such a body executes, loops of at most 3 rounds -/
def most : Nat → Nat → Nat
  | 0, _ => 1
  | d + 1, l => max 1 (3 * ((l / 2) * most d (l / 2)))
mutual
theorem Tr.made_ex {G : Str → List Int → Prop} {R : Int → Prop} (hR : ∀ k, R k → 0 ≤ k ∧ k ≤ 3) : ∀ (t : Tr) (l d : Nat), t.made G R l d → t.ex.length ≤ most d l
  | .op w as, l, 0, h => by rw [Tr.ex, most]; exact Nat.le_refl 1
  | .op w as, l, d + 1, h => by rw [Tr.ex, most]; exact Nat.le_max_left _ _
  | .loop k b, l, 0, h => by
    rw [Tr.made] at h
    exact h.elim
  | .loop k b, l, d + 1, h => by
    rw [Tr.made] at h
    have ih := mades_ex hR b (l / 2) d h.2.2
    have hk := hR k h.1
    rw [Tr.ex, most, List.length_flatten, List.map_replicate, List.sum_replicate_nat]
    refine Nat.le_trans ?_ (Nat.le_max_right _ _)
    have h1 : (exs b).length ≤ l / 2 * most d (l / 2) := Nat.le_trans ih (Nat.mul_le_mul_right _ h.2.1)
    exact Nat.mul_le_mul (by omega) h1
theorem mades_ex {G : Str → List Int → Prop} {R : Int → Prop} (hR : ∀ k, R k → 0 ≤ k ∧ k ≤ 3) : ∀ (b : List Tr) (l d : Nat), mades G R b l d → (exs b).length ≤ b.length * most d l
  | [], _, _, _ => by rw [exs]; exact Nat.zero_le _
  | t :: r, l, d, h => by
    rw [mades] at h
    have h1 := Tr.made_ex hR t l d h.1
    have h2 := mades_ex hR r l d h.2
    rw [exs, List.length_append, List.length_cons, Nat.succ_mul]
    omega
end
/-! ### what is executed: numbers -/
theorem flat_len {α : Type} (n : Nat) (xs : List α) : ((List.replicate n xs).flatten).length = n * xs.length := by
  rw [List.length_flatten, List.map_replicate, List.sum_replicate_nat]
mutual
theorem Tr.ex_len : ∀ (t : Tr) (d : Nat), t.wf d → (t.ex.length : Int) = t.len
  | .op w as, _, _ => by rw [Tr.ex, Tr.len]; rfl
  | .loop k b, 0, h => by rw [Tr.wf] at h; exact h.elim
  | .loop k b, d + 1, h => by
    rw [Tr.wf] at h
    have ih := exs_len b d h.2.2.2
    rw [Tr.ex, Tr.len, flat_len, ← ih, Int.natCast_mul]
    congr 1
    omega
theorem exs_len : ∀ (b : List Tr) (d : Nat), wfs b d → ((exs b).length : Int) = lens b
  | [], _, _ => by rw [exs, lens]; rfl
  | t :: r, d, h => by
    rw [wfs] at h
    rw [exs, lens, List.length_append, Int.natCast_add, Tr.ex_len t d h.1, exs_len r d h.2]
end
/-- the word of an instruction -/
def Tr.word : Tr → Str
  | .op w _ => w
  | .loop _ _ => "loop"
theorem count_flat (z : Str) (xs : List Tr) : ∀ n : Nat, (((List.replicate n xs).flatten).map Tr.word).count z = n * (xs.map Tr.word).count z
  | 0 => by simp
  | n + 1 => by rw [List.replicate_succ, List.flatten_cons, List.map_append, List.count_append, count_flat z xs n, Nat.succ_mul, Nat.add_comm]
mutual
theorem Tr.ex_cnt (z : Str) : ∀ (t : Tr) (d : Nat), t.wf d → (((t.ex.map Tr.word).count z : Nat) : Int) = t.cnt z
  | .op w as, _, _ => by
    rw [Tr.ex, Tr.cnt]
    show (([w].count z : Nat) : Int) = _
    rw [List.count_singleton]
    by_cases e : w = z
    · rw [if_pos e, if_pos (beq_iff_eq.mpr e)]
      rfl
    · rw [if_neg e, if_neg (fun h => e (beq_iff_eq.mp h))]
      rfl
  | .loop k b, 0, h => by rw [Tr.wf] at h; exact h.elim
  | .loop k b, d + 1, h => by
    rw [Tr.wf] at h
    have ih := exs_cnt z b d h.2.2.2
    rw [Tr.ex, Tr.cnt, count_flat, ← ih, Int.natCast_mul]
    congr 1
    omega
theorem exs_cnt (z : Str) : ∀ (b : List Tr) (d : Nat), wfs b d → ((((exs b).map Tr.word).count z : Nat) : Int) = cnts z b
  | [], _, _ => by rw [exs, cnts]; rfl
  | t :: r, d, h => by
    rw [wfs] at h
    rw [exs, cnts, List.map_append, List.count_append, Int.natCast_add, Tr.ex_cnt z t d h.1, exs_cnt z r d h.2]
end
/-- all are no loops -/
def Ops (b : List Tr) : Prop := ∀ t ∈ b, ∃ w as, t = .op w as ∧ w ∈ W7
mutual
theorem Tr.ex_ops {G : Str → List Int → Prop} {R : Int → Prop} (hG : ∀ w as, G w as → w ∈ W7) : ∀ (t : Tr) (l d : Nat), t.made G R l d → Ops t.ex
  | .op w as, l, d, h => by
    rw [Tr.made] at h
    rw [Tr.ex]
    intro t m
    exact ⟨w, as, List.mem_singleton.mp m, hG w as h⟩
  | .loop k b, l, 0, h => by rw [Tr.made] at h; exact h.elim
  | .loop k b, l, d + 1, h => by
    rw [Tr.made] at h
    rw [Tr.ex]
    intro t m
    obtain ⟨xs, m1, m2⟩ := List.mem_flatten.mp m
    rw [(List.mem_replicate.mp m1).2] at m2
    exact exs_ops hG b (l / 2) d h.2.2 t m2
theorem exs_ops {G : Str → List Int → Prop} {R : Int → Prop} (hG : ∀ w as, G w as → w ∈ W7) : ∀ (b : List Tr) (l d : Nat), mades G R b l d → Ops (exs b)
  | [], _, _, _ => by rw [exs]; intro t m; cases m
  | t :: r, l, d, h => by
    rw [mades] at h
    rw [exs]
    intro u m
    rcases List.mem_append.mp m with m | m
    · exact Tr.ex_ops hG t l d h.1 u m
    · exact exs_ops hG r l d h.2 u m
end
/-! ### data of instructions -/
def Tr.dat : Tr → PyData
  | .op w as => .tuple (.str w :: as.map .int)
  | .loop _ _ => .none
theorem dp_ints {K : PySem.W.Frag} {H : Hp} : ∀ as : List Int, DpAll K H (as.map V.int) (as.map PyData.int)
  | [] => .nil
  | a :: r => .cons (.int a) (dp_ints r)
theorem lay_ints : ∀ as : List Int, PyData.canLayAll0 (as.map PyData.int) = true
  | [] => by rw [List.map_nil, PyData.canLayAll0]
  | a :: r => by rw [List.map_cons, PyData.canLayAll0, PyData.canLay0, lay_ints r]; rfl
theorem depth_ints : ∀ as : List Int, PyData.depthAll (as.map PyData.int) = 0
  | [] => by rw [List.map_nil, PyData.depthAll]
  | a :: r => by rw [List.map_cons, PyData.depthAll, PyData.depth, depth_ints r]; rfl
theorem Ops.dp {K : PySem.W.Frag} {H : Hp} : ∀ {b : List Tr} {vs : List V}, Ops b → TrsAt K H b vs → DpAll K H vs (b.map Tr.dat)
  | [], vs, _, h => by
    rw [TrsAt] at h
    rw [h]
    exact .nil
  | t :: r, vs, o, h => by
    rw [TrsAt] at h
    obtain ⟨v, us, rfl, a, k⟩ := h
    obtain ⟨w, as, rfl, _⟩ := o t List.mem_cons_self
    rw [TrAt] at a
    obtain ⟨x, rfl, sq⟩ := a
    exact .cons (.tup sq (.cons (.str w) (dp_ints as))) (Ops.dp (fun u m => o u (List.mem_cons_of_mem _ m)) k)
theorem Ops.lay : ∀ {b : List Tr}, Ops b → PyData.canLayAll0 (b.map Tr.dat) = true
  | [], _ => by rw [List.map_nil, PyData.canLayAll0]
  | t :: r, o => by
    obtain ⟨w, as, rfl, hw⟩ := o t List.mem_cons_self
    rw [List.map_cons, PyData.canLayAll0, Ops.lay (fun u m => o u (List.mem_cons_of_mem _ m)), Tr.dat, PyData.canLay0, PyData.canLayAll0, PyData.canLay0, W7_ok hw, lay_ints]
    rfl
theorem Ops.deep : ∀ {b : List Tr}, Ops b → PyData.depthAll (b.map Tr.dat) ≤ 1
  | [], _ => by rw [List.map_nil, PyData.depthAll]; exact Nat.zero_le _
  | t :: r, o => by
    obtain ⟨w, as, rfl, hw⟩ := o t List.mem_cons_self
    have ih := Ops.deep (b := r) (fun u m => o u (List.mem_cons_of_mem _ m))
    rw [List.map_cons, PyData.depthAll, Tr.dat, PyData.depth, PyData.depthAll, PyData.depth, depth_ints]
    omega
theorem Ops.shaped {b : List Tr} (o : Ops b) : SeqAt.shaped (.list (b.map Tr.dat)) = true := by
  unfold SeqAt.shaped
  rw [PyData.canLay0, o.lay, PyData.depth, decide_eq_true (by have := o.deep; omega)]
  rfl
theorem shaped_nil : SeqAt.shaped (.list []) = true := by decide
theorem eqv_nil : ∀ b : List PyData, PyData.eqv (.list b) (.list []) = b.isEmpty
  | [] => by rw [PyData.eqv, PyData.eqvAll]; rfl
  | a :: r => by rw [PyData.eqv, PyData.eqvAll]; rfl
theorem inV2 {w a b : Str} : inV (.str w) [.str a, .str b] = true ↔ (w = a ∨ w = b) := by
  show (a == w || (b == w || false)) = true ↔ _
  rw [Bool.or_false, Bool.or_eq_true, beq_iff_eq, beq_iff_eq]
  constructor
  · rintro (h | h)
    · exact .inl h.symm
    · exact .inr h.symm
  · rintro (h | h)
    · exact .inl h.symm
    · exact .inr h.symm
/-! ### promises of the law's own defs -/
def W9 : List Str := ["set", "copy", "copy", "add", "add", "scale", "swap", "read", "write"]
theorem W9_in : ∀ x ∈ W9, x ∈ W7 := by
  have z : (W9.all fun x => W7.contains x) = true := by decide
  intro x m
  exact List.contains_iff_mem.mp (List.all_eq_true.mp z x m)
def spWords : Sp := fun vs H Q _ => vs = [] ∧ ∀ p, H p = none → Q (.ref p) (upd H p (.lst (W9.map V.str)))
def spItem (K : PySem.W.Frag) : Sp := fun vs H Q _ => ∃ (u ws : Addr) (p n : Int) (wl : List Str), vs = [.ref u, .int p, .int n, .ref ws] ∧ Urn H u ∧ 2 ≤ p ∧ p ≤ 10007 ∧ 1 ≤ n ∧ n ≤ 8 ∧ ws ≠ u ∧ SqL K H ws (wl.map V.str) ∧ wl ≠ [] ∧ wl.length ≤ 1000 ∧ (∀ x ∈ wl, x ∈ W7) ∧
  ∀ w as v H', GoodOp p n w as → (w ∈ wl ∨ w = "set") → TrAt K H' (.op w as) v → Urn H' u → But u H H' → Q v H'
def spBody (K : PySem.W.Frag) (d : Nat) : Sp := fun vs H Q _ => ∃ (u ws rs : Addr) (p n : Int) (wl : List Str) (rl : List Int) (l e : Nat), vs = [.ref u, .int p, .int n, .ref ws, .int (l : Int), .int (e : Int), .ref rs] ∧ Urn H u ∧ 2 ≤ p ∧ p ≤ 10007 ∧ 1 ≤ n ∧ n ≤ 8 ∧ ws ≠ u ∧ SqL K H ws (wl.map V.str) ∧ wl ≠ [] ∧ wl.length ≤ 1000 ∧ (∀ x ∈ wl, x ∈ W7) ∧
  rs ≠ u ∧ SqL K H rs (rl.map V.int) ∧ rl ≠ [] ∧ rl.length ≤ 1000 ∧ l ≤ 1000 ∧ e < d ∧
  ∀ b v H', b.length ≤ l → mades (fun w as => GoodOp p n w as ∧ (w ∈ wl ∨ w = "set")) (fun k => k ∈ rl) b l e → BodyAt K H' b v → Urn H' u → But u H H' → Q v H'
mutual
/-- every body within executes a bounded number of steps -/
def Tr.fine : Tr → Prop
  | .op w _ => w ∈ W7
  | .loop _ b => (exs b).length ≤ 100000 ∧ fines b
def fines : List Tr → Prop
  | [] => True
  | t :: r => t.fine ∧ fines r
end
theorem fines_get : ∀ {b : List Tr} {i : Nat} {t : Tr}, fines b → b[i]? = some t → t.fine
  | [], _, _, _, e => by simp at e
  | t :: r, 0, u, h, e => by
    cases e
    rw [fines] at h
    exact h.1
  | t :: r, i + 1, u, h, e => by
    rw [fines] at h
    exact fines_get (i := i) h.2 e
mutual
theorem Tr.fine_ops : ∀ t : Tr, t.fine → Ops t.ex
  | .op w as, h => by
    rw [Tr.fine] at h
    rw [Tr.ex]
    intro t m
    exact ⟨w, as, List.mem_singleton.mp m, h⟩
  | .loop k b, h => by
    rw [Tr.fine] at h
    rw [Tr.ex]
    intro t m
    obtain ⟨xs, m1, m2⟩ := List.mem_flatten.mp m
    rw [(List.mem_replicate.mp m1).2] at m2
    exact fines_ops b h.2 t m2
theorem fines_ops : ∀ b : List Tr, fines b → Ops (exs b)
  | [], _ => by rw [exs]; intro t m; cases m
  | t :: r, h => by
    rw [fines] at h
    rw [exs]
    intro u m
    rcases List.mem_append.mp m with m | m
    · exact Tr.fine_ops t h.1 u m
    · exact fines_ops r h.2 u m
end
theorem most0 : ∀ d, most d 0 = 1
  | 0 => rfl
  | d + 1 => by
    rw [most]
    show max 1 (3 * (0 * _)) = 1
    rw [Nat.zero_mul]
    rfl
theorem most_pos : ∀ d l, 1 ≤ most d l
  | 0, _ => Nat.le_refl 1
  | d + 1, l => by rw [most]; exact Nat.le_max_left _ _
mutual
theorem Tr.made_fine {G : Str → List Int → Prop} {R : Int → Prop} (hG : ∀ w as, G w as → w ∈ W7) (hR : ∀ k, R k → 0 ≤ k ∧ k ≤ 3) : ∀ (t : Tr) (l d : Nat), max 1 l * most d l ≤ 100000 → t.made G R l d → t.fine
  | .op w as, l, d, _, h => by
    rw [Tr.made] at h
    rw [Tr.fine]
    exact hG w as h
  | .loop k b, l, 0, _, h => by rw [Tr.made] at h; exact h.elim
  | .loop k b, l, d + 1, hb, h => by
    rw [Tr.made] at h
    rw [Tr.fine]
    have h1 : 3 * (l / 2 * most d (l / 2)) ≤ 100000 := by
      have h0 : most (d + 1) l ≤ 100000 := Nat.le_trans (Nat.le_mul_of_pos_left _ (by omega)) hb
      rw [most] at h0
      exact Nat.le_trans (Nat.le_max_right _ _) h0
    have h2 := mades_ex hR b (l / 2) d h.2.2
    have h3 : b.length * most d (l / 2) ≤ l / 2 * most d (l / 2) := Nat.mul_le_mul_right _ h.2.1
    refine ⟨by omega, mades_fine hG hR b (l / 2) d ?_ h.2.2⟩
    by_cases z : l / 2 = 0
    · rw [z, most0]
      decide
    · rw [show max 1 (l / 2) = l / 2 by omega]
      omega
theorem mades_fine {G : Str → List Int → Prop} {R : Int → Prop} (hG : ∀ w as, G w as → w ∈ W7) (hR : ∀ k, R k → 0 ≤ k ∧ k ≤ 3) : ∀ (b : List Tr) (l d : Nat), max 1 l * most d l ≤ 100000 → mades G R b l d → fines b
  | [], _, _, _, _ => by rw [fines]; trivial
  | t :: r, l, d, hl, h => by
    rw [mades] at h
    rw [fines]
    exact ⟨Tr.made_fine hG hR t l d hl h.1, mades_fine hG hR r l d hl h.2⟩
end
theorem mades_big {G : Str → List Int → Prop} {R : Int → Prop} (hR : ∀ k, R k → 0 ≤ k ∧ k ≤ 3) {b : List Tr} {l d : Nat} (hl : b.length ≤ l) (hm : max 1 l * most d l ≤ 100000) (h : mades G R b l d) : (exs b).length ≤ 100000 := by
  have h1 := mades_ex hR b l d h
  have h2 : b.length * most d l ≤ max 1 l * most d l := Nat.mul_le_mul_right _ (by omega)
  omega
theorem most84 : max 1 8 * most 4 8 ≤ 100000 := by decide
def spExec (K : PySem.W.Frag) (d : Nat) : Sp := fun vs H Q _ => ∃ v b, vs = [v] ∧ BodyAt K H b v ∧ okB d b ∧ fines b ∧ (exs b).length ≤ 100000 ∧
  ∀ H' l us, Same H H' → H l = none → H' l = some (.lst us) → TrsAt K H' (exs b) us → Q (.ref l) H'
end Lj
set_option Elab.async false
set_option linter.all false
set_option maxRecDepth 100000
namespace Lj
open PySem PySem.Spec PyProof.Rows L2
theorem iteNN {c A B : Prop} [Decidable c] (h : ¬ c) (a : A) : if (!decide c) = true then A else B := by
  rw [decide_eq_false h]
  exact a
/-! ### repr of lists of numbers -/
/-- a number, None, a truth value, shown in a few signs -/
def Leaf (d : PyData) : Prop := d.showable = true ∧ d.hasDict = false ∧ d.depth = 0 ∧ d.shown.length ≤ 1921
theorem leaf_int {i : Int} (h : i.natAbs.log2 < 1920) : Leaf (.int i) := ⟨by rw [PyData.showable]; exact decide_eq_true h, by rw [PyData.hasDict], by rw [PyData.depth], by rw [PyData.shown]; exact int_text_len_1921 h⟩
theorem leaf_none : Leaf .none := ⟨by rw [PyData.showable], by rw [PyData.hasDict], by rw [PyData.depth], by rw [PyData.shown]; decide⟩
theorem leaf_all : ∀ {ds : List PyData}, (∀ d ∈ ds, Leaf d) → PyData.showableAll ds = true ∧ PyData.hasDictAll ds = false ∧ PyData.depthAll ds = 0 ∧ ((PyData.shownAll ds).map (·.length)).sum ≤ 1921 * ds.length ∧ (PyData.shownAll ds).length = ds.length
  | [], _ => ⟨by rw [PyData.showableAll], by rw [PyData.hasDictAll], by rw [PyData.depthAll], by rw [PyData.shownAll]; exact Nat.zero_le _, by rw [PyData.shownAll]; rfl⟩
  | d :: r, h => by
    obtain ⟨a1, a2, a3, a4⟩ := h d List.mem_cons_self
    obtain ⟨b1, b2, b3, b4, b5⟩ := leaf_all (ds := r) fun x m => h x (List.mem_cons_of_mem _ m)
    refine ⟨by rw [PyData.showableAll, a1, b1]; rfl, by rw [PyData.hasDictAll, a2, b2]; rfl, by rw [PyData.depthAll, a3, b3]; rfl, ?_, by rw [PyData.shownAll, List.length_cons, b5, List.length_cons]⟩
    rw [PyData.shownAll, List.map_cons, List.sum_cons, List.length_cons]
    omega
theorem leaf_list {ds : List PyData} (h : ∀ d ∈ ds, Leaf d) (n : ds.length ≤ 8000) : (PyData.list ds).showable = true ∧ (PyData.list ds).hasDict = false ∧ (PyData.list ds).depth ≤ 64 ∧ (PyData.list ds).shown.length ≤ sizeLine := by
  obtain ⟨b1, b2, b3, b4, b5⟩ := leaf_all h
  refine ⟨by rw [PyData.showable]; exact b1, by rw [PyData.hasDict]; exact b2, by rw [PyData.depth, b3]; decide, ?_⟩
  rw [PyData.shown, sizeLine_eq]
  have := PySem.listText_len_le (PyData.shownAll ds)
  omega
theorem dp_int_list {K : PySem.W.Frag} {H : Hp} {a : Addr} {ns : List Int} (h : SqL K H a (ns.map V.int)) : Dp K H (.ref a) (.list (ns.map PyData.int)) := .lst h (dp_ints ns)
theorem log_of {i : Int} {k : Nat} (h : i.natAbs < 2 ^ k) (k0 : 0 < k) (k1 : k ≤ 1920) : i.natAbs.log2 < 1920 := Nat.lt_of_lt_of_le (PySem.Flt.log2_lt_of k0 h) k1
theorem leaf_ints {ns : List Int} (h : ∀ n ∈ ns, n.natAbs < 2 ^ 1000) : ∀ d ∈ ns.map PyData.int, Leaf d := by
  intro d m
  obtain ⟨n, hn, rfl⟩ := List.mem_map.mp m
  exact leaf_int (log_of (h n hn) (by decide) (by decide))
/-! ### bounds -/
def top : Nat → Int
  | 0 => 1
  | d + 1 => 10 ^ 18 * (1000 * top d)
theorem top_pos : ∀ d, 1 ≤ top d
  | 0 => by decide
  | d + 1 => by
    have := top_pos d
    rw [top]
    omega
mutual
theorem Tr.len_bd : ∀ (t : Tr) (d : Nat), t.wf d → 0 ≤ t.len ∧ t.len ≤ top d
  | .op w as, d, _ => by
    rw [Tr.len]
    exact ⟨by decide, top_pos d⟩
  | .loop k b, 0, h => by rw [Tr.wf] at h; exact h.elim
  | .loop k b, d + 1, h => by
    rw [Tr.wf] at h
    obtain ⟨i0, i1⟩ := lens_bd b d h.2.2.2
    have tp := top_pos d
    have i2 : lens b ≤ 1000 * top d := Int.le_trans i1 (Int.mul_le_mul_of_nonneg_right (by omega) (by omega))
    rw [Tr.len, top]
    exact ⟨Int.mul_nonneg h.1 i0, Int.mul_le_mul h.2.1 i2 i0 (by decide)⟩
theorem lens_bd : ∀ (b : List Tr) (d : Nat), wfs b d → 0 ≤ lens b ∧ lens b ≤ (b.length : Int) * top d
  | [], d, _ => by rw [lens]; exact ⟨by decide, by simp⟩
  | t :: r, d, h => by
    rw [wfs] at h
    obtain ⟨a0, a1⟩ := Tr.len_bd t d h.1
    obtain ⟨b0, b1⟩ := lens_bd r d h.2
    rw [lens, List.length_cons]
    refine ⟨by omega, ?_⟩
    rw [show ((r.length + 1 : Nat) : Int) = (r.length : Int) + 1 from rfl, Int.add_mul, Int.one_mul]
    omega
end
mutual
theorem Tr.cnt_bd (z : Str) : ∀ (t : Tr) (d : Nat), t.wf d → 0 ≤ t.cnt z ∧ t.cnt z ≤ t.len
  | .op w as, d, _ => by
    rw [Tr.len, Tr.cnt]
    split <;> exact ⟨by decide, by decide⟩
  | .loop k b, 0, h => by rw [Tr.wf] at h; exact h.elim
  | .loop k b, d + 1, h => by
    rw [Tr.wf] at h
    obtain ⟨i0, i1⟩ := cnts_bd z b d h.2.2.2
    rw [Tr.len, Tr.cnt]
    exact ⟨Int.mul_nonneg h.1 i0, Int.mul_le_mul_of_nonneg_left i1 h.1⟩
theorem cnts_bd (z : Str) : ∀ (b : List Tr) (d : Nat), wfs b d → 0 ≤ cnts z b ∧ cnts z b ≤ lens b
  | [], d, _ => by rw [lens, cnts]; exact ⟨by decide, by decide⟩
  | t :: r, d, h => by
    rw [wfs] at h
    obtain ⟨a0, a1⟩ := Tr.cnt_bd z t d h.1
    obtain ⟨b0, b1⟩ := cnts_bd z r d h.2
    rw [lens, cnts]
    omega
end
mutual
theorem Tr.inn_bd : ∀ (t : Tr) (d : Nat), t.wf d → 0 ≤ t.inn ∧ t.inn ≤ top d
  | .op w as, d, _ => by
    rw [Tr.inn]
    have := top_pos d
    omega
  | .loop k b, 0, h => by rw [Tr.wf] at h; exact h.elim
  | .loop k b, d + 1, h => by
    rw [Tr.wf] at h
    obtain ⟨i0, i1⟩ := inns_bd b d h.2.2.2
    have tp := top_pos d
    have i2 : inns b ≤ 1000 * top d := Int.le_trans i1 (Int.mul_le_mul_of_nonneg_right (by omega) (by omega))
    rw [Tr.inn, top]
    omega
theorem inns_bd : ∀ (b : List Tr) (d : Nat), wfs b d → 0 ≤ inns b ∧ inns b ≤ (b.length : Int) * top d
  | [], d, _ => by rw [inns]; exact ⟨by decide, by simp⟩
  | t :: r, d, h => by
    rw [wfs] at h
    obtain ⟨a0, a1⟩ := Tr.inn_bd t d h.1
    obtain ⟨b0, b1⟩ := inns_bd r d h.2
    rw [inns, List.length_cons]
    refine ⟨by omega, ?_⟩
    rw [show ((r.length + 1 : Nat) : Int) = (r.length : Int) + 1 from rfl, Int.add_mul, Int.one_mul]
    omega
end
mutual
theorem Tr.dep_bd : ∀ (t : Tr) (d : Nat), t.wf d → t.dep ≤ d
  | .op w as, d, _ => by rw [Tr.dep]; omega
  | .loop k b, 0, h => by rw [Tr.wf] at h; exact h.elim
  | .loop k b, d + 1, h => by
    rw [Tr.wf] at h
    have := deps_bd b d h.2.2.2
    rw [Tr.dep]
    omega
theorem deps_bd : ∀ (b : List Tr) (d : Nat), wfs b d → deps b ≤ d
  | [], d, _ => by rw [deps]; omega
  | t :: r, d, h => by
    rw [wfs] at h
    have h1 := Tr.dep_bd t d h.1
    have h2 := deps_bd r d h.2
    rw [deps]
    split <;> omega
end
theorem lens_log {b : List Tr} {d : Nat} (h : okB (d + 1) b) (hd : d ≤ 6) : (lens b).natAbs < 2 ^ 1000 := by
  obtain ⟨h0, h1⟩ := lens_bd b d h.1
  have tp := top_pos d
  have h2 : lens b ≤ 1000 * top d := Int.le_trans h1 (Int.mul_le_mul_of_nonneg_right (by have := h.2; omega) (by omega))
  have h3 : 1000 * top d < 2 ^ 1000 := by
    have : d = 0 ∨ d = 1 ∨ d = 2 ∨ d = 3 ∨ d = 4 ∨ d = 5 ∨ d = 6 := by omega
    rcases this with rfl | rfl | rfl | rfl | rfl | rfl | rfl <;> decide +kernel
  omega
/-! ### once, and with great rounds -/
mutual
def Tr.once : Tr → Tr
  | .op w as => .op w as
  | .loop _ b => .loop 1 (onces b)
def onces : List Tr → List Tr
  | [] => []
  | t :: r => t.once :: onces r
end
theorem onces_map : ∀ b : List Tr, onces b = b.map Tr.once
  | [] => by rw [onces]; rfl
  | t :: r => by rw [onces, onces_map r]; rfl
mutual
theorem Tr.made_once {G : Str → List Int → Prop} {R : Int → Prop} : ∀ (t : Tr) (l d : Nat), t.made G R l d → t.once.made G (fun k => k = 1) l d
  | .op w as, l, d, h => by
    rw [Tr.made] at h
    rw [Tr.once, Tr.made]
    exact h
  | .loop k b, l, 0, h => by rw [Tr.made] at h; exact h.elim
  | .loop k b, l, d + 1, h => by
    rw [Tr.made] at h
    rw [Tr.once, Tr.made]
    exact ⟨rfl, by rw [onces_map, List.length_map]; exact h.2.1, mades_once b (l / 2) d h.2.2⟩
theorem mades_once {G : Str → List Int → Prop} {R : Int → Prop} : ∀ (b : List Tr) (l d : Nat), mades G R b l d → mades G (fun k => k = 1) (onces b) l d
  | [], l, d, _ => by rw [onces]; exact mades_nil
  | t :: r, l, d, h => by
    rw [mades] at h
    rw [onces, mades]
    exact ⟨Tr.made_once t l d h.1, mades_once r l d h.2⟩
end
/-- no step of the word z, were each loop executed once -/
def NoW (z : Str) (b : List Tr) : Prop := z ∉ (exs (onces b)).map Tr.word
mutual
theorem Tr.noW (z : Str) : ∀ t : Tr, z ∉ (t.once.ex).map Tr.word → t.cnt z = 0
  | .op w as, h => by
    rw [Tr.once, Tr.ex] at h
    rw [Tr.cnt, if_neg]
    intro e
    exact h (by subst e; exact List.mem_singleton.mpr rfl)
  | .loop k b, h => by
    rw [Tr.once, Tr.ex] at h
    rw [Tr.cnt, noWs z b (by
      intro m
      refine h ?_
      show z ∈ (List.flatten [exs (onces b)]).map Tr.word
      rw [List.flatten_cons, List.flatten_nil, List.append_nil]
      exact m), Int.mul_zero]
theorem noWs (z : Str) : ∀ b : List Tr, NoW z b → cnts z b = 0
  | [], _ => by rw [cnts]
  | t :: r, h => by
    unfold NoW at h
    rw [onces, exs, List.map_append, List.mem_append] at h
    rw [cnts, Tr.noW z t (fun m => h (.inl m)), noWs z r (fun m => h (.inr m))]
    rfl
end
mutual
/-- the same but for rounds, and these only where nothing is read or written -/
def Tr.gr : Tr → Tr → Prop
  | .op w as, t => t = .op w as
  | .loop k b, t => ∃ k' b', t = .loop k' b' ∧ 0 ≤ k' ∧ k' ≤ 10 ^ 18 ∧ grs b b' ∧ (k' = k ∨ (NoW "read" b' ∧ NoW "write" b'))
def grs : List Tr → List Tr → Prop
  | [], g => g = []
  | t :: r, g => ∃ t' r', g = t' :: r' ∧ t.gr t' ∧ grs r r'
end
theorem grs_snoc : ∀ {b g : List Tr} {t t' : Tr}, grs b g → t.gr t' → grs (b ++ [t]) (g ++ [t'])
  | [], g, t, t', h, k => by
    rw [grs] at h
    rw [h]
    show grs [t] [t']
    rw [grs]
    exact ⟨t', [], rfl, k, by rw [grs]⟩
  | a :: r, g, t, t', h, k => by
    rw [grs] at h
    obtain ⟨a', r', rfl, h1, h2⟩ := h
    show grs (a :: (r ++ [t])) (a' :: (r' ++ [t']))
    rw [grs]
    exact ⟨a', _, rfl, h1, grs_snoc h2 k⟩
mutual
theorem Tr.gr_all : ∀ (t t' : Tr), t.gr t' → t'.once = t.once ∧ t'.inn = t.inn ∧ t'.dep = t.dep ∧ (∀ d, t.wf d → t'.wf d) ∧ (∀ G R l d, t.made G R l d → t'.made G (fun k => R k ∨ (0 ≤ k ∧ k ≤ 10 ^ 18)) l d) ∧ ((t.cnt "read" = t'.cnt "read") ∧ (t.cnt "write" = t'.cnt "write"))
  | .op w as, t', h => by
    rw [Tr.gr] at h
    subst h
    refine ⟨rfl, rfl, rfl, fun _ h => h, fun G R l d h => ?_, rfl, rfl⟩
    rw [Tr.made] at h ⊢
    exact h
  | .loop k b, t', h => by
    rw [Tr.gr] at h
    obtain ⟨k', b', rfl, k0, k1, hg, hk⟩ := h
    obtain ⟨e1, e2, e3, e4, e5, e6, e7⟩ := grs_all b b' hg
    refine ⟨by rw [Tr.once, Tr.once, e1], by rw [Tr.inn, Tr.inn, e2, e7.1], by rw [Tr.dep, Tr.dep, e3], fun d h => ?_, fun G R l d h => ?_, ?_⟩
    · cases d with
      | zero => rw [Tr.wf] at h; exact h.elim
      | succ d =>
        rw [Tr.wf] at h ⊢
        exact ⟨k0, k1, by rw [e7.1]; exact h.2.2.1, e4 d h.2.2.2⟩
    · cases d with
      | zero => rw [Tr.made] at h; exact h.elim
      | succ d =>
        rw [Tr.made] at h ⊢
        exact ⟨.inr ⟨k0, k1⟩, by rw [e7.1]; exact h.2.1, e5 G R _ _ h.2.2⟩
    · rw [Tr.cnt, Tr.cnt, Tr.cnt, Tr.cnt]
      rcases hk with rfl | ⟨n1, n2⟩
      · rw [e6.1, e6.2]
        exact ⟨rfl, rfl⟩
      · rw [e6.1, e6.2, noWs _ b' n1, noWs _ b' n2, Int.mul_zero, Int.mul_zero]
        exact ⟨rfl, rfl⟩
theorem grs_all : ∀ (b g : List Tr), grs b g → onces g = onces b ∧ inns g = inns b ∧ deps g = deps b ∧ (∀ d, wfs b d → wfs g d) ∧ (∀ G R l d, mades G R b l d → mades G (fun k => R k ∨ (0 ≤ k ∧ k ≤ 10 ^ 18)) g l d) ∧ ((cnts "read" b = cnts "read" g) ∧ (cnts "write" b = cnts "write" g)) ∧ (g.length = b.length ∧ True)
  | [], g, h => by
    rw [grs] at h
    subst h
    exact ⟨rfl, rfl, rfl, fun _ h => h, fun _ _ _ _ _ => mades_nil, ⟨rfl, rfl⟩, rfl, trivial⟩
  | t :: r, g, h => by
    rw [grs] at h
    obtain ⟨t', r', rfl, h1, h2⟩ := h
    obtain ⟨a1, a2, a3, a4, a5, a6⟩ := Tr.gr_all t t' h1
    obtain ⟨e1, e2, e3, e4, e5, e6, e7⟩ := grs_all r r' h2
    refine ⟨by rw [onces, onces, a1, e1], by rw [inns, inns, a2, e2], by rw [deps, deps, a3, e3], fun d h => ?_, fun G R l d h => ?_, ⟨by rw [cnts, cnts, a6.1, e6.1], by rw [cnts, cnts, a6.2, e6.2]⟩, by rw [List.length_cons, List.length_cons, e7.1], trivial⟩
    · rw [wfs] at h ⊢
      exact ⟨a4 d h.1, e4 d h.2⟩
    · rw [mades] at h ⊢
      exact ⟨a5 G R l d h.1, e5 G R l d h.2⟩
end
theorem shaped_ints (ns : List Int) : SeqAt.shaped (.list (ns.map PyData.int)) = true := by
  unfold SeqAt.shaped
  rw [PyData.canLay0, lay_ints, PyData.depth, depth_ints]
  rfl
theorem same_but {H H1 H2 : Hp} {u : Addr} (s : Same H H1) (n : H u = none) (b : But u H1 H2) : Same H H2 := fun x o e => b x o (ne_of_none e n) (s x o e)
/-- one parameter, given by its name -/
theorem kb1 {K : PySem.W.Frag} {x p : Str} {st : Stmt} {f : Addr} {fd : FuncData} (F : Fun K x x st f fd)
    (h : ∀ (kV doc pm : Value) (an : Option Addr) (cdv ct u : Value), bindArgs (PySem.W.fnOf x x (defArgs st) (defBody st) (defScope st) .none kV doc pm an cdv ct) ⟨[], [(p, u)]⟩ = pure [(p, u)]) :
    KBinds K fd [p] [p] (fun us ws => if us.isEmpty then ws else []) (fun us ws => if us.isEmpty then ws else []) := by
  obtain ⟨oc, od, kV, doc, pm, an, cdv, ct, osl, rfl, lk, hcd⟩ := F.ex
  refine ⟨fun s us ws _ hl => ?_, fun {vs us zs ws} r rz => ?_⟩
  · cases us with
    | cons u r =>
      rw [show (u :: r).isEmpty = false from rfl, if_neg Bool.false_ne_true] at hl
      cases hl
    | nil =>
      match ws, hl with
      | [_], _ => exact .of_eq (h ..)
  · cases r with
    | nil => exact rz
    | cons _ _ => exact .nil
end Lj
namespace Lj
mutual
theorem Tr.wf_up : ∀ (t : Tr) (n : Nat), t.wf n → t.wf (n + 1)
  | .op w as, n, h => by
    rw [Tr.wf] at h ⊢
    exact h
  | .loop k b, 0, h => by rw [Tr.wf] at h; exact h.elim
  | .loop k b, n + 1, h => by
    rw [Tr.wf] at h ⊢
    exact ⟨h.1, h.2.1, h.2.2.1, wfs_up' b n h.2.2.2⟩
theorem wfs_up' : ∀ (b : List Tr) (n : Nat), wfs b n → wfs b (n + 1)
  | [], n, _ => by rw [wfs]; trivial
  | t :: r, n, h => by
    rw [wfs] at h ⊢
    exact ⟨Tr.wf_up t n h.1, wfs_up' r n h.2⟩
end
theorem wfs_up {b : List Tr} {n : Nat} (h : wfs b n) : wfs b (n + 1) := wfs_up' b n h
end Lj
set_option Elab.async false
set_option linter.all false
set_option maxRecDepth 100000
namespace K06
open PySem PySem.Spec PyProof.Rows L2 Lj
def topS (i : Nat) : Stmt := PySem.Challenge.pw_leastjournal_k06_sizes_and_counts.main.body.getD i (.Pass ⟨0, 0, 0, 0⟩)
abbrev sSize : Stmt := topS 1
theorem scSize : FnScope ["program", "total", "instruction"] ["program"] (defScope sSize) := ⟨rfl, rfl, rfl, by decide +kernel, rfl, by decide +kernel, by decide +kernel⟩
abbrev sDepth : Stmt := topS 2
theorem scDepth : FnScope ["program", "deepest", "instruction"] ["program"] (defScope sDepth) := ⟨rfl, rfl, rfl, by decide +kernel, rfl, by decide +kernel, by decide +kernel⟩
abbrev sStep_count : Stmt := topS 3
theorem scStep_count : FnScope ["program", "instruction"] ["program"] (defScope sStep_count) := ⟨rfl, rfl, rfl, by decide +kernel, rfl, by decide +kernel, by decide +kernel⟩
abbrev sLength : Stmt := topS 4
theorem scLength : FnScope ["instruction"] ["instruction"] (defScope sLength) := ⟨rfl, rfl, rfl, by decide +kernel, rfl, by decide +kernel, by decide +kernel⟩
abbrev sRead_count : Stmt := topS 5
theorem scRead_count : FnScope ["program"] ["program"] (defScope sRead_count) := ⟨rfl, rfl, rfl, by decide +kernel, rfl, by decide +kernel, by decide +kernel⟩
abbrev sWrite_count : Stmt := topS 6
theorem scWrite_count : FnScope ["program"] ["program"] (defScope sWrite_count) := ⟨rfl, rfl, rfl, by decide +kernel, rfl, by decide +kernel, by decide +kernel⟩
abbrev sWord_count : Stmt := topS 7
theorem scWord_count : FnScope ["program", "word", "total", "instruction"] ["program", "word"] (defScope sWord_count) := ⟨rfl, rfl, rfl, by decide +kernel, rfl, by decide +kernel, by decide +kernel⟩
abbrev sUrn : Stmt := topS 9
theorem scUrn : FnScope ["_law_script", "_law_k", "_law_cell", "_law_own"] ["_law_script", "_law_k"] (defScope sUrn) := ⟨rfl, rfl, rfl, by decide +kernel, rfl, by decide +kernel, by decide +kernel⟩
abbrev sTake : Stmt := topS 10
theorem scTake : FnScope ["_law_urn_here", "_law_below", "_law_digit", "_law_mixed"] ["_law_urn_here", "_law_below"] (defScope sTake) := ⟨rfl, rfl, rfl, by decide +kernel, rfl, by decide +kernel, by decide +kernel⟩
abbrev sOf : Stmt := topS 11
theorem scOf : FnScope ["_law_urn_here", "_law_items"] ["_law_urn_here", "_law_items"] (defScope sOf) := ⟨rfl, rfl, rfl, by decide +kernel, rfl, by decide +kernel, by decide +kernel⟩
abbrev sPrime : Stmt := topS 12
theorem scPrime : FnScope ["_law_urn_here"] ["_law_urn_here"] (defScope sPrime) := ⟨rfl, rfl, rfl, by decide +kernel, rfl, by decide +kernel, by decide +kernel⟩
abbrev sItem : Stmt := topS 13
theorem scItem : FnScope ["_law_urn_here", "_law_p", "_law_n", "_law_words_here", "_law_word", "_law_x", "_law_c", "_law_y"] ["_law_urn_here", "_law_p", "_law_n", "_law_words_here"] (defScope sItem) := ⟨rfl, rfl, rfl, by decide +kernel, rfl, by decide +kernel, by decide +kernel⟩
abbrev sBody : Stmt := topS 14
theorem scBody : FnScope ["_law_urn_here", "_law_p", "_law_n", "_law_words_here", "_law_length", "_law_deep", "_law_rounds", "_law_found", "_law_turn", "_law_inner"] ["_law_urn_here", "_law_p", "_law_n", "_law_words_here", "_law_length", "_law_deep", "_law_rounds"] (defScope sBody) := ⟨rfl, rfl, rfl, by decide +kernel, rfl, by decide +kernel, by decide +kernel⟩
abbrev sWords : Stmt := topS 15
theorem scWords : FnScope [] [] (defScope sWords) := ⟨rfl, rfl, rfl, by decide +kernel, rfl, by decide +kernel, by decide +kernel⟩
abbrev sSteps : Stmt := topS 16
theorem scSteps : FnScope ["_law_tree", "_law_item_here"] ["_law_tree"] (defScope sSteps) := ⟨rfl, rfl, rfl, by decide +kernel, rfl, by decide +kernel, by decide +kernel⟩
abbrev sExecuted : Stmt := topS 17
theorem scExecuted : FnScope ["_law_tree", "_law_found", "_law_item_here", "_law_body_here", "_law_turn"] ["_law_tree"] (defScope sExecuted) := ⟨rfl, rfl, rfl, by decide +kernel, rfl, by decide +kernel, by decide +kernel⟩
abbrev sGreat : Stmt := topS 18
theorem scGreat : FnScope ["_law_urn_here", "_law_tree", "_law_found", "_law_item_here", "_law_inner", "_law_words_here", "_law_great_here", "_law_one"] ["_law_urn_here", "_law_tree"] (defScope sGreat) := ⟨rfl, rfl, rfl, by decide +kernel, rfl, by decide +kernel, by decide +kernel⟩
abbrev sOnce : Stmt := topS 19
theorem scOnce : FnScope ["_law_item_here", "_law_inner"] ["_law_item_here"] (defScope sOnce) := ⟨rfl, rfl, rfl, by decide +kernel, rfl, by decide +kernel, by decide +kernel⟩
abbrev sWalked : Stmt := topS 20
theorem scWalked : FnScope ["_law_tree", "_law_count", "_law_most", "_law_item_here", "_law_inner", "_law_below"] ["_law_tree"] (defScope sWalked) := ⟨rfl, rfl, rfl, by decide +kernel, rfl, by decide +kernel, by decide +kernel⟩
abbrev sRight : Stmt := topS 21
theorem scRight : FnScope ["_law_tree", "_law_words_here", "_law_told", "_law_due", "_law_item_here"] ["_law_tree"] (defScope sRight) := ⟨rfl, rfl, rfl, by decide +kernel, rfl, by decide +kernel, by decide +kernel⟩
abbrev sLaw : Stmt := topS 22
theorem scLaw : FnScope ["_law_script", "_law_k", "_law_urn_here", "_law_p", "_law_n", "_law_turn", "_law_tree", "_law_great_here", "_law_some", "_law_many", "_law_around"] ["_law_script"] (defScope sLaw) := ⟨rfl, rfl, rfl, by decide +kernel, rfl, by decide +kernel, by decide +kernel⟩
section
variable {P : Program} {w : World} {K : PySem.W.Frag} {mg : Str → Option Value} {base : Heap}
theorem take_all {α : Type} (b : List α) : b.take b.length = b := List.take_length
/-! ### step_count and length -/
theorem ok_length (M : Bl mg) (F : At K mg "length" sLength ["instruction"]) {n k : Nat} (h : Has P w K mg base k "step_count" ["program"] (spTI K (okB n) lens)) :
    Has P w K mg base (k + 1) "length" ["instruction"] (spII K (fun t => okB (n + 1) [t]) Tr.len) := by
  obtain ⟨fS, fdS, cStep_count⟩ := h
  refine Has.by F scLength (fun vs H Q E h => ?_) (fun f cdv A out s H vs Q E hg hr h => ?_)
  · obtain ⟨v, t, rfl, _⟩ := h
    rfl
  obtain ⟨v, t, rfl, hT, ok, q⟩ := h
  refine ⟨_, (pss_cons (ps_if (pt_cmpR op_eq (pe_ix ix_tup (pv 0) pe_int (fun _ _ => rfl)) pe_str (nomark _))
    (pss_one (ps_ret (pe_op op_mul (pe_ix ix_tup (pv 0) pe_int (fun _ _ => rfl)) (pe_cal cStep_count hg hr (by rfl) (pa_cons (pe_ix ix_tup (pv 0) pe_int (fun _ _ => rfl)) pa_nil)))))
    pss_nil)
  (pss_one (ps_ret pe_int))), ?_⟩
  cases t with
  | op u as =>
    rw [TrAt] at hT
    obtain ⟨a, rfl, sq⟩ := hT
    refine ⟨_, rfl, a, _, 0, .str u, rfl, rfl, sq, at0, rfl, _, rfl, iteN (fun e => okB_op (i := 0) ok rfl (V.str.inj e)) ?_⟩
    exact q H (Same.refl H)
  | loop c b =>
    rw [TrAt] at hT
    obtain ⟨a, d, us, rfl, sq, sq2, r⟩ := hT
    obtain ⟨c0, c1, ok2⟩ := okB_loop (i := 0) ok rfl
    refine ⟨_, rfl, a, _, 0, .str "loop", rfl, rfl, sq, rfl, rfl, _, rfl, iteP rfl ?_⟩
    refine ⟨_, rfl, a, _, 1, .int c, rfl, rfl, sq, rfl, _, rfl, a, _, 2, .ref d, rfl, rfl, sq, rfl, _, b, rfl, ⟨d, us, rfl, sq2, r⟩, ok2, fun H' sm => ?_⟩
    exact ⟨c, _, rfl, rfl, .inl ⟨by omega, by omega⟩, q H' sm⟩
theorem ok_step (M : Bl mg) (F : At K mg "step_count" sStep_count ["program"]) {n k : Nat} (h : Has P w K mg base k "length" ["instruction"] (spII K (fun t => okB (n + 1) [t]) Tr.len)) :
    Has P w K mg base (k + 1) "step_count" ["program"] (spTI K (okB (n + 1)) lens) := by
  obtain ⟨fS, fdS, cLength⟩ := h
  refine Has.by F scStep_count (fun vs H Q E h => ?_) (fun f cdv A out s H vs Q E hg hr h => ?_)
  · obtain ⟨v, t, rfl, _⟩ := h
    rfl
  obtain ⟨v, b, rfl, ⟨c, us, rfl, sq, r⟩, ok, q⟩ := h
  refine ⟨_, (pss_one (ps_ret (pe_callB (cr_sum rfl) (by rfl) M.sum_ (by decide +kernel) (pa_cons (pe_lc (own := [("instruction", 1)]) (g := gName 1) (by rfl) scStep_count.nd (pi_tup (pv 0)) (blkOk_by (own := [("instruction", 1)]) (N := ["program", "instruction"]) (sc := defScope sStep_count) (by decide +kernel)) (fun _ _ _ _ _ => (pg_name (i := 1) scStep_count.nd rfl (.inl rfl))) (fun _ _ _ _ _ => pts_nil) (fun _ _ _ _ _ => (pe_cal cLength hg hr (by rfl) (pa_cons (pv 1) pa_nil)))) pa_nil)))), ?_⟩
  refine ⟨_, rfl, c, rfl, ⟨_, sq⟩, fun D nD => ?_⟩
  refine lc_tup (xs := us) (fun i H' => H' D = some (.lst (((b.take i).map Tr.len).map V.int)) ∧ Same H H') ⟨upd_same, same_new nD⟩ (fun i H' _ h => (Kt.same h.2).sq sq) ?_ ?_
  · rintro i x H' hx ⟨e1, e2⟩
    obtain ⟨t, ht, hT⟩ := r.get hx
    refine ⟨rfl, ?_⟩
    refine ⟨_, rfl, x, t, rfl, TrAt.kt (Kt.same e2) t x hT, ⟨by rw [wfs, wfs]; exact ⟨wfs_get ok.1 ht, trivial⟩, by show 1 ≤ 1000; decide⟩, fun H2 sm => ?_⟩
    refine ⟨_, sm _ _ e1, ?_, ?_, same_upd (e2.trans sm) nD⟩
    · rw [List.length_map, List.length_map, List.length_take]
      exact small1000 (Nat.le_trans (Nat.min_le_right _ _) ok.2)
    · rw [upd_same, map_next ht, List.map_append]
      rfl
  · rintro H' ⟨e1, e2⟩
    rw [r.length, take_all] at e1
    refine ⟨D, _, rfl, SqL.of e1, ?_⟩
    rw [← lens_map]
    exact q H' e2
theorem ok_steps (M : Bl mg) (FL : At K mg "length" sLength ["instruction"]) (FS : At K mg "step_count" sStep_count ["program"]) : ∀ n, Has P w K mg base (2 * n) "step_count" ["program"] (spTI K (okB n) lens)
  | 0 => Has.none FS fun vs H Q E ⟨_, _, _, _, h, _⟩ => h
  | n + 1 => ok_step M FS (ok_length M FL (ok_steps M FL FS n))
/-! ### size -/
theorem ok_size1 (M : Bl mg) (F : At K mg "size" sSize ["program"]) {n k : Nat} (h : Has P w K mg base k "size" ["program"] (spTI K (okB n) szs)) : Has P w K mg base (k + 1) "size" ["program"] (spTI K (okB (n + 1)) szs) := by
  obtain ⟨fS, fdS, cSize⟩ := h
  refine Has.by F scSize (fun vs H Q E h => ?_) (fun f cdv A out s H vs Q E hg hr h => ?_)
  · obtain ⟨v, t, rfl, _⟩ := h
    rfl
  obtain ⟨v, b, rfl, ⟨c, us, rfl, sq, r⟩, ok, q⟩ := h
  refine ⟨_, (pss_cons (ps_set (i := 1) scSize.nd rfl (.inl rfl) (pe_callB call_len_seq (by rfl) M.len_ (by decide +kernel) (pa_cons (pv 0) pa_nil)))
  (pss_cons (ps_for PassesOwn.never rfl (pi_tup (pv 0)) (pg_name (i := 2) scSize.nd rfl (.inl rfl))
    (pss_one (ps_if (pt_cmpR op_eq (pe_ix ix_tup (pv 2) pe_int (fun _ _ => rfl)) pe_str (nomark _))
    (pss_one (ps_aug (i := 1) scSize.nd rfl (.inl rfl) (pe_cal cSize hg hr (by rfl) (pa_cons (pe_ix ix_tup (pv 2) pe_int (fun _ _ => rfl)) pa_nil)) ip_add))
    pss_nil)))
  (pss_one (ps_ret (pv 1))))), ?_⟩
  refine ⟨_, rfl, c, us, rfl, .inr sq, ?_⟩
  refine ⟨_, rfl, c, rfl, ⟨_, sq⟩, ?_⟩
  refine for_tup (xs := us) (fun i σ H' => ∃ y, σ = [some (.ref c), some (.int ((us.length : Int) + ((b.take i).map Tr.inn).sum)), y] ∧ Same H H') ⟨none, ?_, Same.refl H⟩ (fun i σ H' _ h => ?_) ?_ ?_
  · show _ = [some (V.ref c), some (V.int ((us.length : Int) + 0)), none]
    rw [Int.add_zero]
    rfl
  · obtain ⟨_, _, h⟩ := h
    exact (Kt.same h).sq sq
  · rintro i x σ H' hx ⟨y, rfl, e2⟩
    obtain ⟨t, ht, hT⟩ := r.get hx
    have hT := TrAt.kt (Kt.same e2) t x hT
    cases t with
    | op u as =>
      rw [TrAt] at hT
      obtain ⟨a, rfl, sq3⟩ := hT
      refine ⟨_, rfl, a, _, 0, .str u, rfl, rfl, sq3, at0, rfl, _, rfl, iteN (fun e => okB_op ok ht (V.str.inj e)) ?_⟩
      refine ⟨some (.ref a), ?_, e2⟩
      rw [sum_next ht]
      show _ = [_, some (V.int ((us.length : Int) + (((b.take i).map Tr.inn).sum + 0))), _]
      rw [Int.add_zero]
      rfl
    | loop m b' =>
      rw [TrAt] at hT
      obtain ⟨a, d, ws, rfl, sq3, sq4, r2⟩ := hT
      obtain ⟨c0, c1, ok2⟩ := okB_loop ok ht
      refine ⟨_, rfl, a, _, 0, .str "loop", rfl, rfl, sq3, rfl, rfl, _, rfl, iteP rfl ?_⟩
      refine ⟨_, rfl, _, rfl, a, _, 2, .ref d, rfl, rfl, sq3, rfl, _, b', rfl, ⟨d, ws, rfl, sq4, r2⟩, ok2, fun H2 sm => ?_⟩
      refine ⟨_, _, rfl, rfl, some (.ref a), ?_, e2.trans sm⟩
      rw [sum_next ht]
      show _ = [_, some (V.int ((us.length : Int) + (((b.take i).map Tr.inn).sum + Tr.inn (.loop m b')))), _]
      rw [Tr.inn, ← Int.add_assoc]
      rfl
  · rintro σ H' ⟨y, rfl, e2⟩
    rw [r.length, take_all, ← inns_map]
    exact ⟨_, rfl, q H' e2⟩
theorem ok_size (M : Bl mg) (F : At K mg "size" sSize ["program"]) : ∀ n, Has P w K mg base n "size" ["program"] (spTI K (okB n) szs)
  | 0 => Has.none F fun vs H Q E ⟨_, _, _, _, h, _⟩ => h
  | n + 1 => ok_size1 M F (ok_size M F n)
/-! ### depth -/
theorem deps_next : ∀ {b : List Tr} {i : Nat} {t : Tr}, b[i]? = some t → deps (b.take (i + 1)) = if t.dep > deps (b.take i) then t.dep else deps (b.take i)
  | [], i, t, e => by simp at e
  | a :: r, 0, t, e => by
    cases e
    show deps [a] = _
    rw [deps]
    rfl
  | a :: r, i + 1, t, e => by
    have ih := deps_next (b := r) (i := i) e
    rw [List.take_succ_cons, List.take_succ_cons, deps, deps, ih]
    grind
theorem ok_depth1 (M : Bl mg) (F : At K mg "depth" sDepth ["program"]) {n k : Nat} (h : Has P w K mg base k "depth" ["program"] (spTI K (okB n) deps)) : Has P w K mg base (k + 1) "depth" ["program"] (spTI K (okB (n + 1)) deps) := by
  obtain ⟨fS, fdS, cDepth⟩ := h
  refine Has.by F scDepth (fun vs H Q E h => ?_) (fun f cdv A out s H vs Q E hg hr h => ?_)
  · obtain ⟨v, t, rfl, _⟩ := h
    rfl
  obtain ⟨v, b, rfl, ⟨c, us, rfl, sq, r⟩, ok, q⟩ := h
  refine ⟨_, (pss_cons (ps_set (i := 1) scDepth.nd rfl (.inl rfl) pe_int)
  (pss_cons (ps_for PassesOwn.never rfl (pi_tup (pv 0)) (pg_name (i := 2) scDepth.nd rfl (.inl rfl))
    (pss_one (ps_if (pt_cmpR op_eq (pe_ix ix_tup (pv 2) pe_int (fun _ _ => rfl)) pe_str (nomark _))
    (pss_one (ps_set (i := 1) scDepth.nd rfl (.inl rfl) (pe_callB (call_max2 rfl) (by rfl) M.max_ (by decide +kernel) (pa_cons (pv 1) (pa_cons (pe_op op_add pe_int (pe_cal cDepth hg hr (by rfl) (pa_cons (pe_ix ix_tup (pv 2) pe_int (fun _ _ => rfl)) pa_nil))) pa_nil)))))
    pss_nil)))
  (pss_one (ps_ret (pv 1))))), ?_⟩
  refine ⟨_, rfl, c, rfl, ⟨_, sq⟩, ?_⟩
  refine for_tup (xs := us) (fun i σ H' => ∃ y, σ = [some (.ref c), some (.int (deps (b.take i))), y] ∧ Same H H') ⟨none, rfl, Same.refl H⟩ (fun i σ H' _ h => ?_) ?_ ?_
  · obtain ⟨_, _, h⟩ := h
    exact (Kt.same h).sq sq
  · rintro i x σ H' hx ⟨y, rfl, e2⟩
    obtain ⟨t, ht, hT⟩ := r.get hx
    have hT := TrAt.kt (Kt.same e2) t x hT
    cases t with
    | op u as =>
      rw [TrAt] at hT
      obtain ⟨a, rfl, sq3⟩ := hT
      refine ⟨_, rfl, a, _, 0, .str u, rfl, rfl, sq3, at0, rfl, _, rfl, iteN (fun e => okB_op ok ht (V.str.inj e)) ?_⟩
      refine ⟨some (.ref a), ?_, e2⟩
      rw [deps_next ht, Tr.dep, if_neg (by have := deps_nn (b.take i); omega)]
      rfl
    | loop m b' =>
      rw [TrAt] at hT
      obtain ⟨a, d, ws, rfl, sq3, sq4, r2⟩ := hT
      obtain ⟨c0, c1, ok2⟩ := okB_loop ok ht
      refine ⟨_, rfl, a, _, 0, .str "loop", rfl, rfl, sq3, rfl, rfl, _, rfl, iteP rfl ?_⟩
      refine ⟨_, rfl, _, rfl, a, _, 2, .ref d, rfl, rfl, sq3, rfl, _, b', rfl, ⟨d, ws, rfl, sq4, r2⟩, ok2, fun H2 sm => ?_⟩
      refine ⟨1, _, rfl, rfl, _, _, rfl, some (.ref a), ?_, e2.trans sm⟩
      rw [deps_next ht, Tr.dep]
      rfl
  · rintro σ H' ⟨y, rfl, e2⟩
    rw [r.length, take_all]
    exact ⟨_, rfl, q H' e2⟩
theorem ok_depth (M : Bl mg) (F : At K mg "depth" sDepth ["program"]) : ∀ n, Has P w K mg base n "depth" ["program"] (spTI K (okB n) deps)
  | 0 => Has.none F fun vs H Q E ⟨_, _, _, _, h, _⟩ => h
  | n + 1 => ok_depth1 M F (ok_depth M F n)
/-! ### counts -/
theorem ok_word1 (M : Bl mg) (F : At K mg "word_count" sWord_count ["program", "word"]) {n k : Nat} (h : Has P w K mg base k "word_count" ["program", "word"] (spWI K (okB n))) : Has P w K mg base (k + 1) "word_count" ["program", "word"] (spWI K (okB (n + 1))) := by
  obtain ⟨fS, fdS, cWord_count⟩ := h
  refine Has.by F scWord_count (fun vs H Q E h => ?_) (fun f cdv A out s H vs Q E hg hr h => ?_)
  · obtain ⟨v, t, z, rfl, _⟩ := h
    rfl
  obtain ⟨v, b, z, rfl, ⟨c, us, rfl, sq, r⟩, ok, hz, q⟩ := h
  refine ⟨_, (pss_cons (ps_set (i := 2) scWord_count.nd rfl (.inl rfl) pe_int)
  (pss_cons (ps_for PassesOwn.never rfl (pi_tup (pv 0)) (pg_name (i := 3) scWord_count.nd rfl (.inl rfl))
    (pss_one (ps_if (pt_cmpR op_eq (pe_ix ix_tup (pv 3) pe_int (fun _ _ => rfl)) pe_str (nomark _))
    (pss_one (ps_aug (i := 2) scWord_count.nd rfl (.inl rfl) (pe_op op_mul (pe_ix ix_tup (pv 3) pe_int (fun _ _ => rfl)) (pe_cal cWord_count hg hr (by rfl) (pa_cons (pe_ix ix_tup (pv 3) pe_int (fun _ _ => rfl)) (pa_cons (pv 1) pa_nil)))) ip_add))
    (pss_one (ps_if (pt_cmpR op_eq (pe_ix ix_tup (pv 3) pe_int (fun _ _ => rfl)) (pv 1) (nomark _))
    (pss_one (ps_aug (i := 2) scWord_count.nd rfl (.inl rfl) pe_int ip_add))
    pss_nil)))))
  (pss_one (ps_ret (pv 2))))), ?_⟩
  refine ⟨_, rfl, c, rfl, ⟨_, sq⟩, ?_⟩
  refine for_tup (xs := us) (fun i σ H' => ∃ y, σ = [some (.ref c), some (.str z), some (.int ((b.take i).map (Tr.cnt z)).sum), y] ∧ Same H H') ⟨none, rfl, Same.refl H⟩ (fun i σ H' _ h => ?_) ?_ ?_
  · obtain ⟨_, _, h⟩ := h
    exact (Kt.same h).sq sq
  · rintro i x σ H' hx ⟨y, rfl, e2⟩
    obtain ⟨t, ht, hT⟩ := r.get hx
    have hT := TrAt.kt (Kt.same e2) t x hT
    rw [sum_next ht]
    cases t with
    | op u as =>
      rw [TrAt] at hT
      obtain ⟨a, rfl, sq3⟩ := hT
      refine ⟨_, rfl, a, _, 0, .str u, rfl, rfl, sq3, at0, rfl, _, rfl, iteN (fun e => okB_op ok ht (V.str.inj e)) ?_⟩
      refine ⟨_, rfl, a, _, 0, .str u, rfl, rfl, sq3, at0, _, rfl, rfl, _, rfl, ?_⟩
      by_cases e : u = z
      · refine iteP (congrArg V.str e) ⟨_, rfl, _, _, rfl, rfl, some (.ref a), ?_, e2⟩
        rw [Tr.cnt, if_pos e]
        rfl
      · refine iteN (fun e' => e (V.str.inj e')) ⟨some (.ref a), ?_, e2⟩
        rw [Tr.cnt, if_neg e, Int.add_zero]
        rfl
    | loop m b' =>
      rw [TrAt] at hT
      obtain ⟨a, d, ws, rfl, sq3, sq4, r2⟩ := hT
      obtain ⟨c0, c1, ok2⟩ := okB_loop ok ht
      refine ⟨_, rfl, a, _, 0, .str "loop", rfl, rfl, sq3, rfl, rfl, _, rfl, iteP rfl ?_⟩
      refine ⟨_, rfl, _, rfl, a, _, 1, .int m, rfl, rfl, sq3, rfl, _, rfl, a, _, 2, .ref d, rfl, rfl, sq3, rfl, _, rfl, _, b', z, rfl, ⟨d, ws, rfl, sq4, r2⟩, ok2, hz, fun H2 sm => ?_⟩
      refine ⟨m, _, rfl, rfl, .inl ⟨by omega, by omega⟩, _, _, rfl, rfl, some (.ref a), ?_, e2.trans sm⟩
      rw [Tr.cnt]
      rfl
  · rintro σ H' ⟨y, rfl, e2⟩
    rw [r.length, take_all, ← cnts_map]
    exact ⟨_, rfl, q H' e2⟩
theorem ok_word (M : Bl mg) (F : At K mg "word_count" sWord_count ["program", "word"]) : ∀ n, Has P w K mg base n "word_count" ["program", "word"] (spWI K (okB n))
  | 0 => Has.none F fun vs H Q E ⟨_, _, _, _, _, h, _⟩ => h
  | n + 1 => ok_word1 M F (ok_word M F n)
theorem ok_read (F : At K mg "read_count" sRead_count ["program"]) {n k : Nat} (h : Has P w K mg base k "word_count" ["program", "word"] (spWI K (okB n))) : Has P w K mg base (k + 1) "read_count" ["program"] (spTI K (okB n) (cnts "read")) := by
  obtain ⟨fS, fdS, cWord_count⟩ := h
  refine Has.by F scRead_count (fun vs H Q E h => ?_) (fun f cdv A out s H vs Q E hg hr h => ?_)
  · obtain ⟨v, t, rfl, _⟩ := h
    rfl
  obtain ⟨v, b, rfl, hB, ok, q⟩ := h
  exact ⟨_, (pss_one (ps_ret (pe_cal cWord_count hg hr (by rfl) (pa_cons (pv 0) (pa_cons pe_str pa_nil))))), _, rfl, v, b, "read", rfl, hB, ok, by decide, q⟩
theorem ok_write (F : At K mg "write_count" sWrite_count ["program"]) {n k : Nat} (h : Has P w K mg base k "word_count" ["program", "word"] (spWI K (okB n))) : Has P w K mg base (k + 1) "write_count" ["program"] (spTI K (okB n) (cnts "write")) := by
  obtain ⟨fS, fdS, cWord_count⟩ := h
  refine Has.by F scWrite_count (fun vs H Q E h => ?_) (fun f cdv A out s H vs Q E hg hr h => ?_)
  · obtain ⟨v, t, rfl, _⟩ := h
    rfl
  obtain ⟨v, b, rfl, hB, ok, q⟩ := h
  exact ⟨_, (pss_one (ps_ret (pe_cal cWord_count hg hr (by rfl) (pa_cons (pv 0) (pa_cons pe_str pa_nil))))), _, rfl, v, b, "write", rfl, hB, ok, by decide, q⟩
end
end K06
set_option Elab.async false
set_option linter.all false
set_option maxRecDepth 100000
namespace K06
open PySem PySem.Spec PyProof.Rows L2 Lj
section
variable {P : Program} {w : World} {K : PySem.W.Frag} {mg : Str → Option Value} {base : Heap}
theorem ok_urn {f : Addr} {fd : FuncData} {k : Nat} (F : Fun K "_law_urn" "_law_urn" sUrn f fd) (ml : mg "len" = none) (ma : mg "abs" = none) (mi : mg "int" = none) :
    FnOk P w K mg base CX0 (k + 1) f fd ["_law_script", "_law_k"] (spUrn K) := by
  refine F.ok scUrn (fun vs H Q E h => ?_) (fun cdv A outer s H vs Q E hr h => ?_)
  · obtain ⟨a, ns, k, rfl, _⟩ := h
    rfl
  obtain ⟨a, ns, k, rfl, hS, h0, h1, q⟩ := h
  refine ⟨_, Evl.pss_cut (ps_set (i := 2) scUrn.nd rfl (.inl rfl) (pe_ifExp (pt_cmpR op_lt (pv 1) (pe_callB call_len_seq (by rfl) ml PySem.boot_len (pa_cons (pv 0) pa_nil)) (nomark _)) (pe_ix ix_list (pv 0) (pv 1) (fun _ _ => rfl)) (pe_op op_add (pe_op op_mul pe_int (pv 1)) pe_int)))
    (pss_cons (ps_set (i := 3) scUrn.nd rfl (.inl rfl) (pe_op op_mul (pe_op op_mod (pe_callB call_abs (by rfl) ma (by decide +kernel) (pa_cons (pv 2) pa_nil)) (pe_callTy call_int_str (by rfl) mi (by decide +kernel) (pa_cons (pe_op op_add_str pe_str (pe_op op_mulS pe_str pe_int)) pa_nil)))
       (pe_callTy call_int1 (by rfl) mi (by decide +kernel) (pa_cons (pe_cmpR op_ge (pe_callB call_abs (by rfl) ma (by decide +kernel) (pa_cons (pv 2) pa_nil)) (pe_op op_pow pe_int pe_int) (nomark _)) pa_nil))))
    (pss_one (ps_ret (pe_lst (pa_cons (pv 3) (pa_cons (pe_op op_mod (pe_op op_mul (pe_op op_add (pe_op op_add (pe_op op_mod (pv 2) pe_int) (pe_op op_mul (pe_op op_mul pe_int (pv 1)) (pv 1))) pe_int) pe_int) pe_int) pa_nil)))))), ?_⟩
  refine ⟨fun σ H' => ∃ c : Int, σ = [some (.ref a), some (.int k), some (.int c), none] ∧ H' = H, ?_, ?_⟩
  · refine ⟨_, rfl, _, rfl, a, _, rfl, .inl hS, _, _, rfl, rfl, _, rfl, ite2 (fun c => ?_) (fun c => ?_)⟩
    · have c' : k < (((ns.map V.int).length : Nat) : Int) := of_decide_eq_true c
      rw [List.length_map] at c'
      obtain ⟨v, _, hv⟩ := at_int (ns := ns) h0 c'
      exact ⟨_, rfl, _, rfl, a, _, _, _, rfl, rfl, hS, hv, v, rfl, rfl⟩
    · exact ⟨_, rfl, 3, k, rfl, rfl, .inl ⟨by decide, by decide⟩, _, _, rfl, rfl, _, rfl, rfl⟩
  · rintro σ' H' ⟨c, rfl, rfl⟩
    refine ⟨_, rfl, c, rfl, _, _, rfl, rfl, mul_ok0, _, _, rfl, rfl, (by decide +kernel), _, _, rfl, urnText_int, urnText_len, _, _, rfl, rfl, (by show (0 : Int) < 10 ^ 300; decide +kernel), _, rfl, c, rfl, 10, 18, rfl, rfl, ⟨by decide, by decide, by decide⟩, _, _, rfl, rfl, .inr ⟨_, rfl, _, _, rfl, rfl, .inr ?_, ?_⟩⟩
    · exact ind_bd _
    obtain ⟨o1, o2⟩ := own_lt c (decide (10 ^ (18 : Int).toNat ≤ if c < 0 then -c else c))
    refine ⟨_, rfl, _, rfl, c, _, rfl, rfl, (by show (0 : Int) < 2305843009213693951; decide), _, rfl, 7919, k, rfl, rfl, .inl ⟨by decide, by decide⟩, _, rfl, _, k, rfl, rfl, .inl ⟨by omega, by omega⟩, _, _, rfl, rfl, _, _, rfl, rfl, _, _, rfl, rfl, .inr ⟨by decide, by decide⟩, _, _, rfl, rfl, (by show (0 : Int) < 2305843009213693951; decide), (by show 2 ≤ sizeLine; decide), fun p np => ?_⟩
    exact q _ p (same_new np) np ⟨_, _, upd_same, o1, o2, Int.emod_nonneg _ (by decide), Int.emod_lt_of_pos _ (by decide)⟩
theorem ok_take {f : Addr} {fd : FuncData} {k : Nat} (F : Fun K "_law_take" "_law_take" sTake f fd) :
    FnOk P w K mg base CX0 (k + 1) f fd ["_law_urn_here", "_law_below"] spTake := by
  refine F.ok scTake (fun vs H Q E h => ?_) (fun cdv A outer s H vs Q E hr h => ?_)
  · obtain ⟨p, n, rfl, _⟩ := h
    rfl
  obtain ⟨p, n, rfl, ⟨u, v, hp, u0, u1, v0, v1⟩, n0, n1, q⟩ := h
  refine ⟨_, pss_cons (ps_if (pt_cmpR op_gt (pe_ix ix_list (pv 0) pe_int (fun _ _ => rfl)) pe_int (nomark _))
      (pss_cons (ps_set (i := 2) scTake.nd rfl (.inl rfl) (pe_op op_mod (pe_ix ix_list (pv 0) pe_int (fun _ _ => rfl)) (pv 1)))
      (pss_cons (ps_asg (pe_op op_fdivW (pe_ix ix_list (pv 0) pe_int (fun _ _ => rfl)) (pv 1)) (pg_sub (pv 0) pe_int set_list))
      (pss_one (ps_ret (pv 2))))) pss_nil)
    (pss_cons (ps_asg (pe_op op_mod (pe_op op_add (pe_op op_mul (pe_ix ix_list (pv 0) pe_int (fun _ _ => rfl)) pe_int) pe_int) pe_int) (pg_sub (pv 0) pe_int set_list))
    (pss_cons (ps_set (i := 3) scTake.nd rfl (.inl rfl) (pe_op op_mod (pe_op op_mul (pe_op op_fdiv (pe_ix ix_list (pv 0) pe_int (fun _ _ => rfl)) pe_int) (pe_op op_add (pe_op op_mod (pe_ix ix_list (pv 0) pe_int (fun _ _ => rfl)) pe_int) pe_int)) pe_int))
    (Evl.pss_cut (ps_if (pt_cmpR op_gt (pv 1) (pe_op op_pow pe_int pe_int) (nomark _))
      (pss_cons (ps_asg (pe_op op_mod (pe_op op_add (pe_op op_mul (pe_ix ix_list (pv 0) pe_int (fun _ _ => rfl)) pe_int) pe_int) pe_int) (pg_sub (pv 0) pe_int set_list))
      (pss_one (ps_set (i := 3) scTake.nd rfl (.inl rfl) (pe_op op_add (pe_op op_mul (pv 3) pe_int) (pe_ix ix_list (pv 0) pe_int (fun _ _ => rfl)))))) pss_nil)
    (pss_one (ps_ret (pe_op op_mod (pe_op op_fdiv (pv 3) pe_int) (pv 1))))))), ?_⟩
  refine ⟨_, rfl, p, _, 0, .int u, rfl, rfl, SqL.of hp, rfl, _, _, rfl, rfl, _, rfl, ite2 (fun c => ?_) (fun c => ?_)⟩
  · have c' : 0 < u := of_decide_eq_true c
    refine ⟨_, rfl, p, _, 0, .int u, rfl, rfl, SqL.of hp, rfl, _, rfl, u, n, rfl, rfl, n0, ?_⟩
    refine ⟨_, rfl, p, _, 0, .int u, rfl, rfl, SqL.of hp, rfl, _, rfl, u, n, rfl, rfl, wide_div (b := 1000) n0 n1 (by decide) (by decide), _, rfl, p, _, 0, 0, rfl, rfl, hp, rfl, _, rfl, ?_⟩
    refine q _ _ (Int.emod_nonneg _ (by omega)) (Int.emod_lt_of_pos _ n0) ⟨_, v, upd_same, ?_, ?_, v0, v1⟩ But.upd
    · exact Int.ediv_nonneg (by omega) (by omega)
    · have h1 : 0 ≤ u / n := Int.ediv_nonneg (by omega) (by omega)
      have h2 : u / n ≤ u := Int.ediv_le_self _ (by omega)
      omega
  · refine ⟨_, rfl, p, _, 1, .int v, rfl, rfl, SqL.of hp, rfl, v, _, rfl, rfl, .inl ⟨by omega, by omega⟩, _, _, rfl, rfl, _, _, rfl, rfl, (by show (0 : Int) < 2305843009213693951; decide), _, rfl, p, _, 1, 1, rfl, rfl, hp, rfl, ?_⟩
    have w0 := nx0 v
    have w1 := nx1 v
    have hx : (upd H p (.lst [.int u, .int (nx v)])) p = some (.lst [.int u, .int (nx v)]) := upd_same
    refine ⟨_, rfl, p, _, 1, .int (nx v), rfl, rfl, SqL.of hx, rfl, nx v, _, rfl, rfl, ⟨by decide, by decide⟩, _, rfl, p, _, 1, .int (nx v), rfl, rfl, SqL.of hx, rfl, nx v, _, rfl, rfl, (by show (0 : Int) < 65537; decide), _, _, rfl, rfl, _, _, rfl, rfl, .inr ⟨by omega, by omega⟩, _, _, rfl, rfl, (by show (0 : Int) < 2305843009213693921; decide), ?_⟩
    refine ⟨fun σ H' => ∃ m y : Int, σ = [some (.ref p), some (.int n), none, some (.int m)] ∧ H' = upd H p (.lst [.int u, .int y]) ∧ 0 ≤ y ∧ y < 2305843009213693951, ?_, ?_⟩
    · refine ⟨_, rfl, 10, 9, rfl, rfl, ⟨by decide, by decide, by decide⟩, _, _, rfl, rfl, _, rfl, ite2 (fun c => ?_) (fun c => ?_)⟩
      · refine ⟨_, rfl, p, _, 1, .int (nx v), rfl, rfl, SqL.of hx, rfl, nx v, _, rfl, rfl, .inl ⟨by omega, by omega⟩, _, _, rfl, rfl, _, _, rfl, rfl, (by show (0 : Int) < 2305843009213693951; decide), _, rfl, p, _, 1, 1, rfl, rfl, hx, rfl, ?_⟩
        have hy : (upd (upd H p (.lst [.int u, .int (nx v)])) p (.lst [.int u, .int (ny (nx v))])) p = some (.lst [.int u, .int (ny (nx v))]) := upd_same
        refine ⟨_, rfl, _, _, rfl, rfl, .inr ⟨by decide, by decide⟩, _, rfl, p, _, 1, .int (ny (nx v)), rfl, rfl, SqL.of hy, rfl, _, _, rfl, rfl, ?_⟩
        exact ⟨_, ny (nx v), rfl, upd_upd, ny0 _, ny1 _⟩
      · exact ⟨_, nx v, rfl, rfl, w0, w1⟩
    · rintro σ' H' ⟨m, y, rfl, rfl, y0, y1⟩
      refine ⟨_, rfl, m, 97, rfl, rfl, ⟨by decide, by decide⟩, _, rfl, _, n, rfl, rfl, n0, ?_⟩
      exact q _ _ (Int.emod_nonneg _ (by omega)) (Int.emod_lt_of_pos _ n0) ⟨u, y, upd_same, u0, u1, y0, y1⟩ But.upd
theorem ok_of {f fT : Addr} {fd fdT : FuncData} {k : Nat} (F : Fun K "_law_of" "_law_of" sOf f fd) (FT : Fun K "_law_take" "_law_take" sTake fT fdT) (bT : Binds K fdT ["_law_urn_here", "_law_below"] []) (gT : mg "_law_take" = some (.ref fT)) (ml : mg "len" = none) :
    FnOk P w K mg base CX0 (k + 2) f fd ["_law_urn_here", "_law_items"] (spOf K) := by
  have GT : FnOk P w K mg base CX0 (k + 1) fT fdT ["_law_urn_here", "_law_below"] spTake := ok_take FT
  refine F.ok scOf (fun vs H Q E h => ?_) (fun cdv A outer s H vs Q E hr h => ?_)
  · obtain ⟨p, r, xs, rfl, _⟩ := h
    rfl
  obtain ⟨p, r, xs, rfl, hU, nr, hr2, hx, hl, q⟩ := h
  refine ⟨_, pss_one (ps_ret (pe_ix ix_list (pv 1) (pe_call GT hr (by rfl) gT FT.kp bT .nil pass0 (pa_cons (pv 0) (pa_cons (pe_callB call_len_seq (by rfl) ml PySem.boot_len (pa_cons (pv 1) pa_nil)) pa_nil))) (fun _ _ => rfl))), ?_⟩
  have l0 : 0 < xs.length := List.length_pos_iff.mpr hx
  have l1 : (1000 : Nat) < wide := by decide +kernel
  refine ⟨_, rfl, _, rfl, _, rfl, r, xs, rfl, .inl hr2, p, _, rfl, hU, by omega, by omega, fun d H' d0 d1 hU' hb => ?_⟩
  obtain ⟨x, mx, hx2⟩ := at_any (xs := xs) d0 d1
  exact ⟨r, xs, d, x, rfl, rfl, hb.seq nr hr2, hx2, q x H' mx hU' hb⟩
end
section
variable {P : Program} {w : World} {K : PySem.W.Frag} {mg : Str → Option Value} {base : Heap}
theorem has_urn (M : Bl mg) (F : At K mg "_law_urn" sUrn ["_law_script", "_law_k"]) : Has P w K mg base 1 "_law_urn" ["_law_script", "_law_k"] (spUrn K) := by
  obtain ⟨f, fd, F, b, g⟩ := F
  exact ⟨f, fd, .of (ok_urn F M.len_ M.abs_ M.int_), F.kp, b, g, fun_lk F⟩
theorem has_take (F : At K mg "_law_take" sTake ["_law_urn_here", "_law_below"]) : Has P w K mg base 1 "_law_take" ["_law_urn_here", "_law_below"] spTake := by
  obtain ⟨f, fd, F, b, g⟩ := F
  exact ⟨f, fd, .of (ok_take F), F.kp, b, g, fun_lk F⟩
theorem has_of (M : Bl mg) (F : At K mg "_law_of" sOf ["_law_urn_here", "_law_items"]) (FT : At K mg "_law_take" sTake ["_law_urn_here", "_law_below"]) : Has P w K mg base 2 "_law_of" ["_law_urn_here", "_law_items"] (spOf K) := by
  obtain ⟨f, fd, F, b, g⟩ := F
  obtain ⟨f2, fd2, F2, b2, g2⟩ := FT
  exact ⟨f, fd, .of (ok_of F F2 b2 g2 M.len_), F.kp, b, g, fun_lk F⟩
theorem ok_prime (F : At K mg "_law_prime" sPrime ["_law_urn_here"]) {k : Nat} (h : Has P w K mg base k "_law_of" ["_law_urn_here", "_law_items"] (spOf K)) : Has P w K mg base (k + 1) "_law_prime" ["_law_urn_here"] spPrimeU := by
  obtain ⟨_, _, cOf⟩ := h
  refine Has.by F scPrime (fun vs H Q E h => ?_) (fun f cdv A out s H vs Q E hg hr h => ?_)
  · obtain ⟨p, rfl, _⟩ := h
    rfl
  obtain ⟨p, rfl, hU, q⟩ := h
  refine ⟨_, (pss_one (ps_ret (pe_cal cOf hg hr (by rfl) (pa_cons (pv 0) (pa_cons (pe_lst (pa_cons pe_int (pa_cons pe_int (pa_cons pe_int (pa_cons pe_int (pa_cons pe_int (pa_cons pe_int (pa_cons pe_int (pa_cons pe_int (pa_cons pe_int (pa_cons pe_int (pa_cons pe_int (pa_cons pe_int (pa_cons pe_int pa_nil)))))))))))))) pa_nil))))), ?_⟩
  refine ⟨_, rfl, (by show 13 ≤ sizeLine; decide), fun l nl => ?_⟩
  refine ⟨p, l, _, rfl, hU.same (same_new nl), hU.ne nl, SqL.of upd_same, (by intro z; cases z), (by show 13 ≤ 1000; decide), fun x H' hx hU' hb => ?_⟩
  have hx2 : x ∈ prs.map V.int := hx
  obtain ⟨z, hz, rfl⟩ := List.mem_map.mp hx2
  exact q z H' hz hU' (But.trans (But.new nl) hb)
theorem ok_words (F : At K mg "_law_words" sWords []) : Has P w K mg base 1 "_law_words" [] spWords := by
  refine Has.by F scWords (fun vs H Q E h => ?_) (fun f cdv A out s H vs Q E hg hr h => ?_)
  · obtain ⟨rfl, _⟩ := h
    rfl
  obtain ⟨rfl, q⟩ := h
  exact ⟨_, (pss_one (ps_ret (pe_lst (pa_cons pe_str (pa_cons pe_str (pa_cons pe_str (pa_cons pe_str (pa_cons pe_str (pa_cons pe_str (pa_cons pe_str (pa_cons pe_str (pa_cons pe_str pa_nil)))))))))))), (by show 9 ≤ sizeLine; decide), fun l nl => q l nl⟩
theorem tup_op {H : Hp} {t : Addr} {u : Str} {as : List Int} (n : H t = none) : TrAt K (upd H t (.tup (.str u :: as.map V.int))) (.op u as) (.ref t) := by
  rw [TrAt]
  exact ⟨t, rfl, SqT.of upd_same⟩
theorem ok_item (M : Bl mg) (F : At K mg "_law_item" sItem ["_law_urn_here", "_law_p", "_law_n", "_law_words_here"]) {k : Nat} (h : Has P w K mg base k "_law_of" ["_law_urn_here", "_law_items"] (spOf K)) (h2 : Has P w K mg base k "_law_take" ["_law_urn_here", "_law_below"] spTake) :
    Has P w K mg base (k + 1) "_law_item" ["_law_urn_here", "_law_p", "_law_n", "_law_words_here"] (spItem K) := by
  obtain ⟨_, _, cOf⟩ := h
  obtain ⟨_, _, cTake⟩ := h2
  refine Has.by F scItem (fun vs H Q E h => ?_) (fun f cdv A out s H vs Q E hg hr h => ?_)
  · obtain ⟨_, _, _, _, _, rfl, _⟩ := h
    rfl
  obtain ⟨u, ws, p, n, wl, rfl, hU, p0, p1, n0, n1, nw, sq, wne, wle, w7, q⟩ := h
  refine ⟨_, (pss_cons (ps_set (i := 4) scItem.nd rfl (.inl rfl) (pe_cal cOf hg hr (by rfl) (pa_cons (pv 0) (pa_cons (pv 3) pa_nil))))
  (pss_cons (ps_par (i := 5) (j := 6) (by rfl) scItem.nd rfl rfl (by decide) rfl rfl (pa_cons (pe_cal cTake hg hr (by rfl) (pa_cons (pv 0) (pa_cons (pv 2) pa_nil))) (pa_cons (pe_cal cOf hg hr (by rfl) (pa_cons (pv 0) (pa_cons (pe_lst (pa_cons pe_int (pa_cons (pe_op op_mod pe_int (pv 1)) (pa_cons (pe_op op_sub (pv 1) pe_int) (pa_cons (pe_cal cTake hg hr (by rfl) (pa_cons (pv 0) (pa_cons (pv 1) pa_nil))) pa_nil))))) pa_nil))) pa_nil)) (by rfl))
  (pss_cons (ps_if (pt_cmpR op_in_seq (pv 4) (pe_tup (pa_cons pe_str (pa_cons pe_str pa_nil))) (by rfl))
    (pss_one (ps_ret (pe_tup (pa_cons (pv 4) (pa_cons (pv 5) (pa_cons (pv 6) pa_nil))))))
    pss_nil)
  (pss_cons (ps_if (pt_cmpR op_in_seq (pv 4) (pe_tup (pa_cons pe_str (pa_cons pe_str pa_nil))) (by rfl))
    (pss_one (ps_ret (pe_tup (pa_cons (pv 4) (pa_cons (pv 5) pa_nil)))))
    pss_nil)
  (pss_cons (ps_if (pt_cmpR op_eq (pv 2) pe_int (nomark _))
    (pss_one (ps_ret (pe_tup (pa_cons pe_str (pa_cons pe_int (pa_cons (pv 6) pa_nil))))))
    pss_nil)
  (pss_cons (ps_set (i := 7) scItem.nd rfl (.inl rfl) (pe_op op_mod (pe_op op_add (pe_op op_add (pv 5) pe_int) (pe_cal cTake hg hr (by rfl) (pa_cons (pv 0) (pa_cons (pe_op op_sub (pv 2) pe_int) pa_nil)))) (pv 2)))
  (pss_cons (ps_if (pt_cmpR op_eq (pv 4) pe_str (nomark _))
    (pss_one (ps_ret (pe_tup (pa_cons (pv 4) (pa_cons (pv 5) (pa_cons (pv 7) (pa_cons (pe_ifExp (pt_cmpR op_gt (pv 1) pe_int (nomark _)) (pe_op op_add pe_int (pe_op op_mod (pv 6) (pe_op op_sub (pv 1) pe_int))) pe_int) pa_nil)))))))
    pss_nil)
  (pss_one (ps_ret (pe_tup (pa_cons (pv 4) (pa_cons (pv 5) (pa_cons (pv 7) pa_nil))))))))))))), ?_⟩
  -- the word
  refine ⟨_, rfl, _, rfl, u, ws, _, rfl, hU, nw, sq, (by simpa using wne), (by rw [List.length_map]; exact wle), fun x H1 hx u1 b1 => ?_⟩
  obtain ⟨z, hz, rfl⟩ := List.mem_map.mp hx
  -- x and c
  refine ⟨_, rfl, _, rfl, u, n, rfl, u1, by omega, wide_big (by omega) (by omega), fun x H2 x0 x1 u2 b2 => ?_⟩
  refine ⟨_, rfl, _, rfl, 1, p, rfl, rfl, (by show (0 : Int) < p; omega), _, rfl, p, 1, rfl, rfl, _, rfl, _, rfl, u, p, rfl, u2, by omega, wide_big (by omega) (by omega), fun c3 H3 c30 c31 u3 b3 => ?_⟩
  refine ⟨(by show 4 ≤ sizeLine; decide), fun l nl => ?_⟩
  refine ⟨u, l, _, rfl, u3.same (same_new nl), u3.ne nl, SqL.of upd_same, (by intro z; cases z), (by show 4 ≤ 1000; decide), fun c H4 hc u4 b4 => ?_⟩
  have bb : But u H H4 := ((b1.trans b2).trans b3).trans ((But.new nl).trans b4)
  obtain ⟨c, rfl, c0, c1⟩ : ∃ c' : Int, c = .int c' ∧ 0 ≤ c' ∧ c' < p := by
    have m0 := Int.emod_nonneg 1 (show p ≠ 0 by omega)
    have m1 := Int.emod_lt_of_pos 1 (show 0 < p by omega)
    simp only [List.mem_cons, List.not_mem_nil, or_false] at hc
    rcases hc with rfl | rfl | rfl | rfl
    · exact ⟨0, rfl, by omega, by omega⟩
    · exact ⟨1 % p, rfl, m0, m1⟩
    · exact ⟨p - 1, rfl, by omega, by omega⟩
    · exact ⟨c3, rfl, c30, c31⟩
  refine ⟨_, _, rfl, ?_⟩
  -- set, scale
  refine ⟨_, rfl, (by show 2 ≤ sizeLine; decide), fun t1 nt1 => ?_⟩
  refine ⟨t1, _, rfl, .inr (SqT.of upd_same), rfl, rfl, _, rfl, ite2 (fun i1 => ?_) (fun i1 => ?_)⟩
  · have e := inV2.mp i1
    refine ⟨_, rfl, _, rfl, _, rfl, (by show 3 ≤ sizeLine; decide), fun t nt => ?_⟩
    exact q z [x, c] _ _ (.inl ⟨e, x, c, rfl, x0, x1, c0, c1⟩) (.inl hz) (tup_op (as := [x, c]) nt) ((u4.same (same_new nt1)).same (same_new nt)) (bb.trans ((But.new nt1).trans (But.new nt)))
  -- read, write
  refine ⟨_, rfl, (by show 2 ≤ sizeLine; decide), fun t2 nt2 => ?_⟩
  have u6 := (u4.same (same_new (o := .tup [.str "set", .str "scale"]) nt1)).same (same_new (o := .tup [.str "read", .str "write"]) nt2)
  have b6 : But u H _ := bb.trans ((But.new (o := .tup [.str "set", .str "scale"]) nt1).trans (But.new (o := .tup [.str "read", .str "write"]) nt2))
  refine ⟨t2, _, rfl, .inr (SqT.of upd_same), rfl, rfl, _, rfl, ite2 (fun i2 => ?_) (fun i2 => ?_)⟩
  · have e := inV2.mp i2
    refine ⟨_, rfl, _, rfl, (by show 2 ≤ sizeLine; decide), fun t nt => ?_⟩
    exact q z [x] _ _ (.inr (.inl ⟨e, x, rfl, x0, x1⟩)) (.inl hz) (tup_op (as := [x]) nt) (u6.same (same_new nt)) (b6.trans (But.new nt))
  have z1 : ¬ (z = "set" ∨ z = "scale") := fun e => i1 (inV2.mpr e)
  have z2 : ¬ (z = "read" ∨ z = "write") := fun e => i2 (inV2.mpr e)
  -- one register
  refine ⟨_, rfl, rfl, _, rfl, ite2 (fun i3 => ?_) (fun i3 => ?_)⟩
  · have e : n = 1 := V.int.inj (of_decide_eq_true i3)
    refine ⟨_, rfl, (by show 3 ≤ sizeLine; decide), fun t nt => ?_⟩
    exact q "set" [0, c] _ _ (.inl ⟨.inl rfl, 0, c, rfl, by omega, by omega, c0, c1⟩) (.inr rfl) (tup_op (as := [0, c]) nt) (u6.same (same_new nt)) (b6.trans (But.new nt))
  have n2 : n ≠ 1 := fun e => i3 (decide_eq_true (congrArg V.int e))
  -- y
  refine ⟨_, rfl, _, _, rfl, rfl, _, rfl, _, rfl, n, 1, rfl, rfl, u, _, rfl, u6, by omega, wide_big (by omega) (by omega), fun d H7 d0 d1 u7 b7 => ?_⟩
  refine ⟨_, _, rfl, rfl, _, rfl, _, n, rfl, rfl, (by show (0 : Int) < n; omega), ?_⟩
  have y0 := Int.emod_nonneg (x + 1 + d) (show n ≠ 0 by omega)
  have y1 := Int.emod_lt_of_pos (x + 1 + d) (show 0 < n by omega)
  have yx : x ≠ (x + 1 + d) % n := fun e => by
    have h := Int.emod_def (x + 1 + d) n
    by_cases g : x + 1 + d < n
    · rw [Int.emod_eq_of_lt (by omega) g] at e
      omega
    · have h2 : (x + 1 + d) % n = x + 1 + d - n := by
        rw [← Int.sub_emod_right]
        exact Int.emod_eq_of_lt (by omega) (by omega)
      omega
  -- add
  refine ⟨_, rfl, rfl, _, rfl, ite2 (fun i4 => ?_) (fun i4 => ?_)⟩
  · have e : z = "add" := V.str.inj (of_decide_eq_true i4)
    refine ⟨_, rfl, _, rfl, _, rfl, _, rfl, p, 2, rfl, rfl, _, rfl, ite2 (fun i5 => ?_) (fun i5 => ?_)⟩
    · have g : 2 < p := of_decide_eq_true i5
      have m0 := Int.emod_nonneg c (show p - 1 ≠ 0 by omega)
      have m1 := Int.emod_lt_of_pos c (show 0 < p - 1 by omega)
      refine ⟨_, rfl, _, rfl, p, 1, rfl, rfl, c, _, rfl, rfl, (by show (0 : Int) < p - 1; omega), 1, _, rfl, rfl, (by show 4 ≤ sizeLine; decide), fun t nt => ?_⟩
      exact q z [x, (x + 1 + d) % n, 1 + c % (p - 1)] _ _ (.inr (.inr (.inr ⟨e, x, _, _, rfl, x0, x1, y0, y1, yx, by omega, by omega⟩))) (.inl hz) (tup_op (as := [x, (x + 1 + d) % n, 1 + c % (p - 1)]) nt) (u7.same (same_new nt)) ((b6.trans b7).trans (But.new nt))
    · refine ⟨(by show 4 ≤ sizeLine; decide), fun t nt => ?_⟩
      exact q z [x, (x + 1 + d) % n, 1] _ _ (.inr (.inr (.inr ⟨e, x, _, _, rfl, x0, x1, y0, y1, yx, by omega, by omega⟩))) (.inl hz) (tup_op (as := [x, (x + 1 + d) % n, 1]) nt) (u7.same (same_new nt)) ((b6.trans b7).trans (But.new nt))
  · have e : z ≠ "add" := fun e => i4 (decide_eq_true (congrArg V.str e))
    have hz7 := w7 z hz
    have e2 : z = "copy" ∨ z = "swap" := by
      simp only [W7, List.mem_cons, List.not_mem_nil, or_false] at hz7
      rcases hz7 with h | h | h | h | h | h | h
      · exact absurd (.inl h) z1
      · exact .inl h
      · exact absurd h e
      · exact absurd (.inr h) z1
      · exact .inr h
      · exact absurd (.inl h) z2
      · exact absurd (.inr h) z2
    refine ⟨_, rfl, _, rfl, _, rfl, (by show 3 ≤ sizeLine; decide), fun t nt => ?_⟩
    exact q z [x, (x + 1 + d) % n] _ _ (.inr (.inr (.inl ⟨e2, x, _, rfl, x0, x1, y0, y1, yx⟩))) (.inl hz) (tup_op (as := [x, (x + 1 + d) % n]) nt) (u7.same (same_new nt)) ((b6.trans b7).trans (But.new nt))
end
end K06
set_option Elab.async false
set_option linter.all false
set_option maxRecDepth 100000
namespace K06
open PySem PySem.Spec PyProof.Rows L2 Lj
section
variable {P : Program} {w : World} {K : PySem.W.Frag} {mg : Str → Option Value} {base : Heap}
theorem ok_body1 (M : Bl mg) (F : At K mg "_law_body" sBody ["_law_urn_here", "_law_p", "_law_n", "_law_words_here", "_law_length", "_law_deep", "_law_rounds"]) {d k : Nat}
    (h : Has P w K mg base k "_law_of" ["_law_urn_here", "_law_items"] (spOf K)) (h2 : Has P w K mg base k "_law_take" ["_law_urn_here", "_law_below"] spTake)
    (h3 : Has P w K mg base k "_law_item" ["_law_urn_here", "_law_p", "_law_n", "_law_words_here"] (spItem K)) (h4 : Has P w K mg base k "_law_body" ["_law_urn_here", "_law_p", "_law_n", "_law_words_here", "_law_length", "_law_deep", "_law_rounds"] (spBody K d)) :
    Has P w K mg base (k + 1) "_law_body" ["_law_urn_here", "_law_p", "_law_n", "_law_words_here", "_law_length", "_law_deep", "_law_rounds"] (spBody K (d + 1)) := by
  obtain ⟨_, _, cOf⟩ := h
  obtain ⟨_, _, cTake⟩ := h2
  obtain ⟨_, _, cItem⟩ := h3
  obtain ⟨_, _, cBody⟩ := h4
  refine Has.by F scBody (fun vs H Q E h => ?_) (fun f cdv A out s H vs Q E hg hr h => ?_)
  · obtain ⟨_, _, _, _, _, _, _, _, _, rfl, _⟩ := h
    rfl
  obtain ⟨u, ws, rs, p, n, wl, rl, l, e, rfl, hU, p0, p1, n0, n1, nw, sqw, wne, wle, w7, nr, sqr, rne, rle, l1, ed, q⟩ := h
  refine ⟨_, (pss_cons (ps_set (i := 7) scBody.nd rfl (.inl rfl) (pe_lst pa_nil))
  (pss_cons (ps_for PassesOwn.never rfl (pi_range1 (by rfl) M.range_ (pa_cons (pe_cal cTake hg hr (by rfl) (pa_cons (pv 0) (pa_cons (pe_op op_add (pv 4) pe_int) pa_nil))) pa_nil)) (pg_name (i := 8) scBody.nd rfl (.inl rfl))
    (pss_one (ps_if (PW.pt (pw_and (pt_cmpR op_gt (pv 5) pe_int (nomark _)) (pw_and1 (pt_cmpR op_eq (pe_cal cTake hg hr (by rfl) (pa_cons (pv 0) (pa_cons pe_int pa_nil))) pe_int (nomark _)))))
    (pss_cons (ps_set (i := 9) scBody.nd rfl (.inl rfl) (pe_cal cBody hg hr (by rfl) (pa_cons (pv 0) (pa_cons (pv 1) (pa_cons (pv 2) (pa_cons (pv 3) (pa_cons (pe_op op_fdiv (pv 4) pe_int) (pa_cons (pe_op op_sub (pv 5) pe_int) (pa_cons (pv 6) pa_nil)))))))))
  (pss_one (ps_expr (pe_bm PySem.F.plainAttrs_list PySem.F.slot_list_append PySem.F.type_list_append mt_append (pv 7) (pa_cons (pe_tup (pa_cons pe_str (pa_cons (pe_cal cOf hg hr (by rfl) (pa_cons (pv 0) (pa_cons (pv 6) pa_nil))) (pa_cons (pv 9) pa_nil)))) pa_nil)))))
    (pss_one (ps_expr (pe_bm PySem.F.plainAttrs_list PySem.F.slot_list_append PySem.F.type_list_append mt_append (pv 7) (pa_cons (pe_cal cItem hg hr (by rfl) (pa_cons (pv 0) (pa_cons (pv 1) (pa_cons (pv 2) (pa_cons (pv 3) pa_nil))))) pa_nil)))))))
  (pss_one (ps_ret (pe_callTy call_tuple_of (by rfl) M.tuple_ (by decide +kernel) (pa_cons (pv 7) pa_nil)))))), ?_⟩
  refine ⟨Nat.zero_le _, fun fo nfo => ?_⟩
  have nfu : fo ≠ u := hU.ne nfo
  refine ⟨_, rfl, _, rfl, (l : Int), 1, rfl, rfl, u, _, rfl, hU.same (same_new nfo), by omega, wide_big (by omega) (by omega), fun m H1 m0 m1 u1 b1 => ?_⟩
  refine ⟨m, rfl, by omega, by omega, ?_⟩
  refine for_range (lo := 0) (n := m.toNat) (fun i σ H' => ∃ y8 y9 bs us, σ = [some (.ref u), some (.int p), some (.int n), some (.ref ws), some (.int (l : Int)), some (.int (e : Int)), some (.ref rs), some (.ref fo), y8, y9] ∧ Urn H' u ∧ But u H H' ∧ H' fo = some (.lst us) ∧
    TrsAt K H' bs us ∧ bs.length = i ∧ mades (fun w as => GoodOp p n w as ∧ (w ∈ wl ∨ w = "set")) (fun k => k ∈ rl) bs l e) ⟨none, none, [], [], rfl, u1, (But.new nfo).trans b1, b1 _ _ nfu upd_same, TrsAt.nil, rfl, mades_nil⟩ ?_ ?_
  · rintro i σ H2 hi ⟨y8, y9, bs, us, rfl, u2, b2, h2, tr2, hlen, hmad⟩
    refine ⟨_, rfl, (e : Int), 0, rfl, rfl, _, rfl, ite2 (fun c => ?_) (fun c => ?_)⟩
    · have c' : (0 : Int) < (e : Int) := of_decide_eq_true c
      refine ⟨_, rfl, u, 4, rfl, u2, by decide, wide_big (by decide) (by decide), fun z H3 z0 z1 u3 b3 => ?_⟩
      have h3 := b3 _ _ nfu h2
      have tr3 := TrsAt.kt (u2.kt b3) _ _ tr2
      have b23 := b2.trans b3
      refine ⟨rfl, _, rfl, ite2 (fun c2 => ?_) (fun c2 => ?_)⟩
      · have e1 : ((l : Int) / 2) = ((l / 2 : Nat) : Int) := by omega
        have e2 : ((e : Int) - 1) = ((e - 1 : Nat) : Int) := by omega
        refine ⟨_, rfl, _, rfl, _, rfl, _, rfl, _, rfl, (l : Int), 2, rfl, rfl, ⟨by decide, by decide⟩, _, rfl, (e : Int), 1, rfl, rfl, _, rfl, u, ws, rs, p, n, wl, rl, l / 2, e - 1, ?_, u3, p0, p1, n0, n1, nw, b23.seq nw sqw, wne, wle, w7, nr, b23.seq nr sqr, rne, rle, by omega, by omega, fun b' v' H4 len4 mad4 body4 u4 b4 => ?_⟩
        · show [V.ref u, V.int p, V.int n, V.ref ws, V.int ((l : Int) / 2), V.int ((e : Int) - 1), V.ref rs] = _
          rw [e1, e2]
        have h4 := b4 _ _ nfu h3
        have b24 := b23.trans b4
        refine ⟨_, rfl, .inl ⟨rfl, _, SqL.of h4⟩, _, rfl, _, rfl, u, rs, _, rfl, u4, nr, b24.seq nr sqr, (by simpa using rne), (by rw [List.length_map]; exact rle), fun x H5 hx u5 b5 => ?_⟩
        obtain ⟨k', hk, rfl⟩ := List.mem_map.mp hx
        obtain ⟨c4, vs4, rfl, sq4, tr4⟩ := body4
        refine ⟨_, rfl, (by show 3 ≤ sizeLine; decide), fun t nt => ?_⟩
        have h5 := b5 _ _ nfu h4
        have h6 : (upd H5 t (.tup [.str "loop", .int k', .ref c4])) fo = some (.lst us) := same_new nt _ _ h5
        refine ⟨fo, _, _, rfl, rfl, h6, ?_, ?_⟩
        · rw [tr2.length, hlen]
          exact small1000 (by omega)
        · have kt6 : Kt (upd H5 t (.tup [.str "loop", .int k', .ref c4])) (upd (upd H5 t (.tup [.str "loop", .int k', .ref c4])) fo (.lst (us ++ [.ref t]))) := Kt.but But.upd h6
          have kt5 : Kt H5 (upd (upd H5 t (.tup [.str "loop", .int k', .ref c4])) fo (.lst (us ++ [.ref t]))) := (Kt.same (same_new nt)).trans kt6
          have kt4 := (u4.kt b5).trans kt5
          have kt3 := (u3.kt b4).trans kt4
          have ntf : t ≠ fo := (ne_of_none h5 nt).symm
          refine ⟨_, _, bs ++ [.loop k' b'], us ++ [.ref t], rfl, (u5.same (same_new nt)).but (q := fo) But.upd nfu.symm, fun x o hx ho => ?_, upd_same, (TrsAt.kt kt3 _ _ tr3).append (TrsAt.one ?_), by rw [List.length_append, hlen]; rfl, mades_append hmad (mades_one ?_)⟩
          · rw [upd_ne (ne_of_none ho nfo)]
            exact same_new nt _ _ (b5 _ _ hx (b24 _ _ hx ho))
          · rw [TrAt]
            exact ⟨t, c4, vs4, rfl, kt6.sq (SqT.of upd_same), kt4.sq sq4, TrsAt.kt kt4 _ _ tr4⟩
          · obtain ⟨e', rfl⟩ : ∃ e', e = e' + 1 := ⟨e - 1, by omega⟩
            rw [Tr.made]
            exact ⟨hk, len4, mad4⟩
      · refine ⟨_, rfl, .inl ⟨rfl, _, SqL.of h3⟩, _, rfl, _, rfl, _, rfl, _, rfl, u, ws, p, n, wl, rfl, u3, p0, p1, n0, n1, nw, b23.seq nw sqw, wne, wle, w7, fun w' as v H9 good inl tr u9 b9 => ?_⟩
        refine ⟨fo, _, _, rfl, rfl, b9 _ _ nfu h3, ?_, ?_⟩
        · rw [tr3.length, hlen]
          exact small1000 (by omega)
        · have kt9 : Kt H9 (upd H9 fo (.lst (us ++ [v]))) := Kt.but But.upd (b9 _ _ nfu h3)
          refine ⟨_, _, bs ++ [.op w' as], us ++ [v], rfl, u9.but (q := fo) But.upd nfu.symm, fun x o hx ho => ?_, upd_same, (TrsAt.kt ((u3.kt b9).trans kt9) _ _ tr3).append (TrsAt.one (TrAt.kt kt9 _ _ tr)), by rw [List.length_append, hlen]; rfl, mades_append hmad (mades_one (by rw [Tr.made]; exact ⟨good, inl⟩))⟩
          rw [upd_ne (ne_of_none ho nfo)]
          exact b9 _ _ hx (b23 _ _ hx ho)
    · refine ⟨_, rfl, .inl ⟨rfl, _, SqL.of h2⟩, _, rfl, _, rfl, _, rfl, _, rfl, u, ws, p, n, wl, rfl, u2, p0, p1, n0, n1, nw, b2.seq nw sqw, wne, wle, w7, fun w' as v H9 good inl tr u9 b9 => ?_⟩
      refine ⟨fo, _, _, rfl, rfl, b9 _ _ nfu h2, ?_, ?_⟩
      · rw [tr2.length, hlen]
        exact small1000 (by omega)
      · have kt9 : Kt H9 (upd H9 fo (.lst (us ++ [v]))) := Kt.but But.upd (b9 _ _ nfu h2)
        refine ⟨_, _, bs ++ [.op w' as], us ++ [v], rfl, u9.but (q := fo) But.upd nfu.symm, fun x o hx ho => ?_, upd_same, (TrsAt.kt ((u2.kt b9).trans kt9) _ _ tr2).append (TrsAt.one (TrAt.kt kt9 _ _ tr)), by rw [List.length_append, hlen]; rfl, mades_append hmad (mades_one (by rw [Tr.made]; exact ⟨good, inl⟩))⟩
        rw [upd_ne (ne_of_none ho nfo)]
        exact b9 _ _ hx (b2 _ _ hx ho)
  · rintro σ H2 ⟨y8, y9, bs, us, rfl, u2, b2, h2, tr2, hlen, hmad⟩
    refine ⟨_, rfl, fo, us, rfl, .inl ⟨SqL.of h2, fun t nt => ?_⟩⟩
    exact q bs (.ref t) _ (by omega) hmad ⟨t, us, rfl, SqT.of upd_same, TrsAt.kt (Kt.same (same_new nt)) _ _ tr2⟩ (u2.same (same_new nt)) (b2.trans (But.new nt))
theorem ok_body (M : Bl mg) (F : At K mg "_law_body" sBody ["_law_urn_here", "_law_p", "_law_n", "_law_words_here", "_law_length", "_law_deep", "_law_rounds"]) {k : Nat}
    (h : Has P w K mg base k "_law_of" ["_law_urn_here", "_law_items"] (spOf K)) (h2 : Has P w K mg base k "_law_take" ["_law_urn_here", "_law_below"] spTake)
    (h3 : Has P w K mg base k "_law_item" ["_law_urn_here", "_law_p", "_law_n", "_law_words_here"] (spItem K)) :
    ∀ d, Has P w K mg base (k + d) "_law_body" ["_law_urn_here", "_law_p", "_law_n", "_law_words_here", "_law_length", "_law_deep", "_law_rounds"] (spBody K d)
  | 0 => Has.none F fun vs H Q E ⟨_, _, _, _, _, _, _, _, _, _, _, _, _, _, _, _, _, _, _, _, _, _, _, _, _, h, _⟩ => absurd h (Nat.not_lt_zero _)
  | d + 1 => ok_body1 M F (h.up (Nat.le_add_right _ _)) (h2.up (Nat.le_add_right _ _)) (h3.up (Nat.le_add_right _ _)) (ok_body M F h h2 h3 d)
/-! ### what is executed -/
theorem trs_flat {H : Hp} {b : List Tr} {vs : List V} (h : TrsAt K H b vs) : ∀ n : Nat, TrsAt K H (List.replicate n b).flatten (List.replicate n vs).flatten
  | 0 => TrsAt.nil
  | n + 1 => by
    rw [List.replicate_succ, List.flatten_cons, List.replicate_succ, List.flatten_cons]
    exact h.append (trs_flat h n)
theorem rep_succ {α : Type} (n : Nat) (xs : List α) : (List.replicate (n + 1) xs).flatten = (List.replicate n xs).flatten ++ xs := by
  rw [List.replicate_succ', List.flatten_append, List.flatten_cons, List.flatten_nil, List.append_nil]
theorem flat_take {b : List Tr} {i : Nat} {t : Tr} (e : b[i]? = some t) : exs (b.take (i + 1)) = exs (b.take i) ++ t.ex := by
  rw [exs_map, exs_map, map_next e, List.flatten_append, List.flatten_cons, List.flatten_nil, List.append_nil]
theorem ex_mem {b : List Tr} {i : Nat} {t : Tr} (e : b[i]? = some t) : ∀ x ∈ t.ex, x ∈ exs b := by
  intro x m
  rw [exs_map]
  exact List.mem_flatten.mpr ⟨t.ex, List.mem_map.mpr ⟨t, List.mem_of_getElem? e, rfl⟩, m⟩
theorem ex_le {b : List Tr} {i : Nat} {t : Tr} (e : b[i]? = some t) : (exs (b.take i)).length + t.ex.length ≤ (exs b).length := by
  have h : exs b = exs (b.take (i + 1)) ++ exs (b.drop (i + 1)) := by
    rw [exs_map, exs_map, exs_map, ← List.flatten_append, ← List.map_append, List.take_append_drop]
  rw [h, flat_take e, List.length_append, List.length_append]
  omega
theorem ok_exec1 (M : Bl mg) (F : At K mg "_law_executed" sExecuted ["_law_tree"]) {d k : Nat} (h : Has P w K mg base k "_law_executed" ["_law_tree"] (spExec K d)) : Has P w K mg base (k + 1) "_law_executed" ["_law_tree"] (spExec K (d + 1)) := by
  obtain ⟨_, _, cExecuted⟩ := h
  refine Has.by F scExecuted (fun vs H Q E h => ?_) (fun f cdv A out s H vs Q E hg hr h => ?_)
  · obtain ⟨_, _, rfl, _⟩ := h
    rfl
  obtain ⟨v, b, rfl, ⟨c, us, rfl, sq, r⟩, ok, fin, big, q⟩ := h
  refine ⟨_, (pss_cons (ps_set (i := 1) scExecuted.nd rfl (.inl rfl) (pe_lst pa_nil))
  (pss_cons (ps_for PassesOwn.never rfl (pi_tup (pv 0)) (pg_name (i := 2) scExecuted.nd rfl (.inl rfl))
    (pss_one (ps_if (pt_cmpR op_eq (pe_ix ix_tup (pv 2) pe_int (fun _ _ => rfl)) pe_str (nomark _))
    (pss_cons (ps_set (i := 3) scExecuted.nd rfl (.inl rfl) (pe_cal cExecuted hg hr (by rfl) (pa_cons (pe_ix ix_tup (pv 2) pe_int (fun _ _ => rfl)) pa_nil)))
  (pss_one (ps_for PassesOwn.never rfl (pi_range1 (by rfl) M.range_ (pa_cons (pe_op op_mul (pe_ix ix_tup (pv 2) pe_int (fun _ _ => rfl)) (pe_callTy call_int1 (by rfl) M.int_ (by decide +kernel) (pa_cons (pe_cmpR (op_neD hr.units) (pv 3) (pe_lst pa_nil) (nomark _)) pa_nil))) pa_nil)) (pg_name (i := 4) scExecuted.nd rfl (.inl rfl))
    (pss_one (ps_expr (pe_bm PySem.F.plainAttrs_list PySem.F.slot_list_extend PySem.F.type_list_extend mt_extend (pv 1) (pa_cons (pv 3) pa_nil)))))))
    (pss_one (ps_expr (pe_bm PySem.F.plainAttrs_list PySem.F.slot_list_append PySem.F.type_list_append mt_append (pv 1) (pa_cons (pv 2) pa_nil)))))))
  (pss_one (ps_ret (pv 1))))), ?_⟩
  refine ⟨Nat.zero_le _, fun fo nfo => ?_⟩
  refine ⟨_, rfl, c, rfl, ⟨_, (Kt.same (same_new nfo)).sq sq⟩, ?_⟩
  refine for_tup (xs := us) (fun i σ H' => ∃ y2 y3 y4 zs, σ = [some (.ref c), some (.ref fo), y2, y3, y4] ∧ Same H H' ∧ H' fo = some (.lst zs) ∧ TrsAt K H' (exs (b.take i)) zs) ⟨none, none, none, [], rfl, same_new nfo, upd_same, TrsAt.nil⟩ ?_ ?_ ?_
  · rintro i σ H' _ ⟨_, _, _, _, _, h, _⟩
    exact (Kt.same h).sq sq
  · rintro i x σ H2 hx ⟨y2, y3, y4, zs, rfl, s2, h2, t2⟩
    obtain ⟨t, ht, hT⟩ := r.get hx
    have hT := TrAt.kt (Kt.same s2) t x hT
    have bd := ex_le ht
    rw [flat_take ht]
    cases t with
    | op z as =>
      have hT0 := hT
      rw [TrAt] at hT
      obtain ⟨a, rfl, sq3⟩ := hT
      refine ⟨_, rfl, a, _, 0, .str z, rfl, rfl, sq3, at0, rfl, _, rfl, iteN (fun e => okB_op ok ht (V.str.inj e)) ?_⟩
      refine ⟨_, rfl, .inl ⟨rfl, _, SqL.of h2⟩, _, rfl, fo, _, _, rfl, rfl, h2, ?_, ?_⟩
      · rw [t2.length, sizeLine_eq]
        rw [Tr.ex] at bd
        have : [Tr.op z as].length = 1 := rfl
        omega
      · have kt : Kt H2 (upd H2 fo (.lst (zs ++ [.ref a]))) := Kt.but But.upd h2
        exact ⟨_, _, _, _, rfl, same_upd s2 nfo, upd_same, (TrsAt.kt kt _ _ t2).append (by rw [Tr.ex]; exact TrsAt.one (TrAt.kt kt _ _ hT0))⟩
    | loop m b' =>
      rw [TrAt] at hT
      obtain ⟨a, g, ws, rfl, sq3, sq4, r2⟩ := hT
      obtain ⟨c0, c1, ok2⟩ := okB_loop ok ht
      have fin2 := fines_get fin ht
      rw [Tr.fine] at fin2
      have ops2 := fines_ops b' fin2.2
      have bd2 : m.toNat * (exs b').length ≤ 100000 := by
        rw [Tr.ex, flat_len] at bd
        omega
      refine ⟨_, rfl, a, _, 0, .str "loop", rfl, rfl, sq3, rfl, rfl, _, rfl, iteP rfl ?_⟩
      refine ⟨_, rfl, a, _, 2, .ref g, rfl, rfl, sq3, rfl, _, b', rfl, ⟨g, ws, rfl, sq4, r2⟩, ok2, fin2.2, fin2.1, fun H3 l2 us2 s3 n3 h3 t3 => ?_⟩
      have nl2 : fo ≠ l2 := ne_of_none h2 n3
      refine ⟨_, rfl, a, _, 1, .int m, rfl, rfl, (Kt.same s3).sq sq3, rfl, _, rfl, Nat.zero_le _, fun e ne => ?_⟩
      have se : Same H3 (upd H3 e (.lst [])) := same_new ne
      refine ⟨.list ((exs b').map Tr.dat), .list [], .lst (SqL.of (se _ _ h3)) (Ops.dp ops2 (TrsAt.kt (Kt.same se) _ _ t3)), .lst (SqL.of upd_same) .nil, ops2.shaped, shaped_nil, .inr ⟨_, rfl, m, _, rfl, rfl, .inl ⟨by omega, by omega⟩, ?_⟩⟩
      obtain ⟨n, hn, hf, hl⟩ : ∃ n : Nat, m * (if (!PyData.eqv (.list ((exs b').map Tr.dat)) (.list [])) = true then 1 else 0) = (n : Int) ∧ (List.replicate n (exs b')).flatten = (List.replicate m.toNat (exs b')).flatten ∧ n ≤ 100000 := by
        rw [eqv_nil]
        cases hx : exs b' with
        | nil =>
          refine ⟨0, ?_, ?_, by decide⟩
          · show m * 0 = _
            rw [Int.mul_zero]
            rfl
          · rw [show (List.replicate m.toNat ([] : List Tr)).flatten = [] from List.flatten_replicate_nil]
            rfl
        | cons y ys =>
          refine ⟨m.toNat, ?_, rfl, ?_⟩
          · show m * 1 = _
            omega
          · rw [hx, List.length_cons] at bd2
            exact Nat.le_trans (Nat.le_mul_of_pos_right _ (Nat.succ_pos _)) bd2
      have hnl : n * (exs b').length ≤ 100000 := by
        have := congrArg List.length hf
        rw [flat_len, flat_len] at this
        omega
      refine ⟨(n : Int), ?_, by omega, by omega, ?_⟩
      · show [V.int (m * _)] = _
        rw [hn]
      rw [show ((n : Int)).toNat = n from rfl]
      have zl := t2.length
      refine for_range (lo := 0) (n := n) (fun j σ H' => ∃ y4, σ = [some (.ref c), some (.ref fo), some (.ref a), some (.ref l2), y4] ∧ Same H H' ∧ H' fo = some (.lst (zs ++ (List.replicate j us2).flatten)) ∧ H' l2 = some (.lst us2) ∧ TrsAt K H' (exs (b.take i)) zs ∧ TrsAt K H' (exs b') us2)
        ⟨_, rfl, (s2.trans s3).trans se, ?_, se _ _ h3, TrsAt.kt (Kt.same (s3.trans se)) _ _ t2, TrsAt.kt (Kt.same se) _ _ t3⟩ ?_ ?_
      · rw [List.replicate_zero, List.flatten_nil, List.append_nil]
        exact se _ _ (s3 _ _ h2)
      · rintro j σ H4 hj ⟨y4, rfl, s4, h4, h5, t4, t5⟩
        have e5 := t5.length
        refine ⟨_, rfl, .inl ⟨rfl, _, SqL.of h4⟩, _, rfl, fo, l2, _, us2, rfl, rfl, h4, h5, ?_, ?_⟩
        · rw [List.length_append, flat_len, zl, e5, sizeLine_eq]
          have : (j + 1) * (exs b').length ≤ n * (exs b').length := Nat.mul_le_mul_right _ hj
          rw [Nat.succ_mul] at this
          omega
        · have kt : Kt H4 (upd H4 fo (.lst ((zs ++ (List.replicate j us2).flatten) ++ us2))) := Kt.but But.upd h4
          refine ⟨_, rfl, same_upd s4 nfo, ?_, ?_, TrsAt.kt kt _ _ t4, TrsAt.kt kt _ _ t5⟩
          · rw [upd_same, rep_succ, List.append_assoc]
          · rw [upd_ne nl2.symm]
            exact h5
      · rintro σ H4 ⟨y4, rfl, s4, h4, h5, t4, t5⟩
        refine ⟨_, _, _, _, rfl, s4, h4, t4.append ?_⟩
        rw [Tr.ex, ← hf]
        exact trs_flat t5 n
  · rintro σ H2 ⟨y2, y3, y4, zs, rfl, s2, h2, t2⟩
    rw [r.length, take_all] at t2
    exact ⟨_, rfl, q H2 fo zs s2 nfo h2 t2⟩
theorem ok_exec (M : Bl mg) (F : At K mg "_law_executed" sExecuted ["_law_tree"]) : ∀ d, Has P w K mg base d "_law_executed" ["_law_tree"] (spExec K d)
  | 0 => Has.none F fun vs H Q E ⟨_, _, _, _, h, _⟩ => h
  | d + 1 => ok_exec1 M F (ok_exec M F d)
/-! ### the law's own count of steps -/
theorem ok_lsteps1 (M : Bl mg) (F : At K mg "_law_steps" sSteps ["_law_tree"]) {n k : Nat} (h : Has P w K mg base k "_law_steps" ["_law_tree"] (spTI K (okB n) lens)) : Has P w K mg base (k + 1) "_law_steps" ["_law_tree"] (spTI K (okB (n + 1)) lens) := by
  obtain ⟨_, _, cSteps⟩ := h
  refine Has.by F scSteps (fun vs H Q E h => ?_) (fun f cdv A out s H vs Q E hg hr h => ?_)
  · obtain ⟨v, t, rfl, _⟩ := h
    rfl
  obtain ⟨v, b, rfl, ⟨c, us, rfl, sq, r⟩, ok, q⟩ := h
  refine ⟨_, (pss_one (ps_ret (pe_callB (cr_sum rfl) (by rfl) M.sum_ (by decide +kernel) (pa_cons (pe_lc (own := [("_law_item_here", 1)]) (g := gName 1) (by rfl) scSteps.nd (pi_tup (pv 0)) (blkOk_by (own := [("_law_item_here", 1)]) (N := ["_law_tree", "_law_item_here"]) (sc := defScope sSteps) (by decide +kernel)) (fun _ _ _ _ _ => (pg_name (i := 1) scSteps.nd rfl (.inl rfl))) (fun _ _ _ _ _ => pts_nil) (fun _ _ _ _ _ => (pe_ifExp (pt_cmpR op_eq (pe_ix (ix_tupK (K := K) rfl) (pv 1) pe_int (fun _ _ => rfl)) pe_str (nomark _)) (pe_op op_mul (pe_ix (ix_tupK (K := K) rfl) (pv 1) pe_int (fun _ _ => rfl)) (pe_cal cSteps hg hr (by rfl) (pa_cons (pe_ix (ix_tupK (K := K) rfl) (pv 1) pe_int (fun _ _ => rfl)) pa_nil))) pe_int))) pa_nil)))), ?_⟩
  refine ⟨_, rfl, c, rfl, ⟨_, sq⟩, fun D nD => ?_⟩
  refine lc_tup (xs := us) (fun i H' => H' D = some (.lst (((b.take i).map Tr.len).map V.int)) ∧ Same H H') ⟨upd_same, same_new nD⟩ (fun i H' _ h => (Kt.same h.2).sq sq) ?_ ?_
  · rintro i x H' hx ⟨e1, e2⟩
    obtain ⟨t, ht, hT⟩ := r.get hx
    have hT := TrAt.kt (Kt.same e2) t x hT
    have fit : (((b.take i).map Tr.len).map V.int).length < sizeLine := by
      rw [List.length_map, List.length_map, List.length_take]
      exact small1000 (Nat.le_trans (Nat.min_le_right _ _) ok.2)
    refine ⟨rfl, ?_⟩
    cases t with
    | op z as =>
      rw [TrAt] at hT
      obtain ⟨a, rfl, sq3⟩ := hT
      refine ⟨_, rfl, a, _, 0, .str z, rfl, rfl, sq3, at0, rfl, _, rfl, iteN (fun e => okB_op ok ht (V.str.inj e)) ?_⟩
      refine ⟨_, e1, fit, ?_, same_upd e2 nD⟩
      rw [upd_same, map_next ht, List.map_append, Tr.len]
      rfl
    | loop m b' =>
      rw [TrAt] at hT
      obtain ⟨a, g, ws, rfl, sq3, sq4, r2⟩ := hT
      obtain ⟨c0, c1, ok2⟩ := okB_loop ok ht
      refine ⟨_, rfl, a, _, 0, .str "loop", rfl, rfl, sq3, rfl, rfl, _, rfl, iteP rfl ?_⟩
      refine ⟨_, rfl, a, _, 1, .int m, rfl, rfl, sq3, rfl, _, rfl, a, _, 2, .ref g, rfl, rfl, sq3, rfl, _, b', rfl, ⟨g, ws, rfl, sq4, r2⟩, ok2, fun H2 sm => ?_⟩
      refine ⟨m, _, rfl, rfl, .inl ⟨by omega, by omega⟩, _, sm _ _ e1, fit, ?_, same_upd (e2.trans sm) nD⟩
      rw [upd_same, map_next ht, List.map_append, Tr.len]
      rfl
  · rintro H' ⟨e1, e2⟩
    rw [r.length, take_all] at e1
    refine ⟨D, _, rfl, SqL.of e1, ?_⟩
    rw [← lens_map]
    exact q H' e2
theorem ok_lsteps (M : Bl mg) (F : At K mg "_law_steps" sSteps ["_law_tree"]) : ∀ n, Has P w K mg base n "_law_steps" ["_law_tree"] (spTI K (okB n) lens)
  | 0 => Has.none F fun vs H Q E ⟨_, _, _, _, h, _⟩ => h
  | n + 1 => ok_lsteps1 M F (ok_lsteps M F n)
end
end K06
set_option Elab.async false
set_option linter.all false
set_option maxRecDepth 100000
namespace K06
open PySem PySem.Spec PyProof.Rows L2 Lj
section
variable {P : Program} {w : World} {K : PySem.W.Frag} {mg : Str → Option Value} {base : Heap}
/-! ### once -/
def spOnce (K : PySem.W.Frag) (d : Nat) : Sp := fun vs H Q _ => ∃ v t, vs = [v] ∧ TrAt K H t v ∧ okB d [t] ∧ ∀ v' H', Same H H' → TrAt K H' t.once v' → Q v' H'
theorem ok_once1 (M : Bl mg) (F : At K mg "_law_once" sOnce ["_law_item_here"]) {d k : Nat} (h : Has P w K mg base k "_law_once" ["_law_item_here"] (spOnce K d)) : Has P w K mg base (k + 1) "_law_once" ["_law_item_here"] (spOnce K (d + 1)) := by
  obtain ⟨_, _, cOnce⟩ := h
  refine Has.by F scOnce (fun vs H Q E h => ?_) (fun f cdv A out s H vs Q E hg hr h => ?_)
  · obtain ⟨_, _, rfl, _⟩ := h
    rfl
  obtain ⟨v, t, rfl, hT, ok, q⟩ := h
  refine ⟨_, (pss_cons (ps_if (pt_cmpR op_ne (pe_ix ix_tup (pv 0) pe_int (fun _ _ => rfl)) pe_str (nomark _))
    (pss_one (ps_ret (pv 0)))
    pss_nil)
  (pss_one (ps_ret (pe_tup (pa_cons pe_str (pa_cons pe_int (pa_cons (pe_callTy call_tuple_of (by rfl) M.tuple_ (by decide +kernel) (pa_cons (pe_lc (own := [("_law_inner", 1)]) (g := gName 1) (by rfl) scOnce.nd (pi_tup (pe_ix ix_tup (pv 0) pe_int (fun _ _ => rfl))) (blkOk_by (own := [("_law_inner", 1)]) (N := ["_law_item_here", "_law_inner"]) (sc := defScope sOnce) (by decide +kernel)) (fun _ _ _ _ _ => (pg_name (i := 1) scOnce.nd rfl (.inl rfl))) (fun _ _ _ _ _ => pts_nil) (fun _ _ _ _ _ => (pe_cal cOnce hg hr (by rfl) (pa_cons (pv 1) pa_nil)))) pa_nil)) pa_nil))))))), ?_⟩
  have hT0 := hT
  cases t with
  | op z as =>
    rw [TrAt] at hT
    obtain ⟨a, rfl, sq⟩ := hT
    refine ⟨_, rfl, a, _, 0, .str z, rfl, rfl, sq, at0, rfl, _, rfl, iteNN (fun e => okB_op (i := 0) ok rfl (V.str.inj e)) ?_⟩
    exact ⟨_, rfl, q _ H (Same.refl H) (by rw [Tr.once]; exact hT0)⟩
  | loop m b =>
    rw [TrAt] at hT
    obtain ⟨a, g, us, rfl, sq, sq2, r⟩ := hT
    obtain ⟨c0, c1, ok2⟩ := okB_loop (i := 0) ok rfl
    refine ⟨_, rfl, a, _, 0, .str "loop", rfl, rfl, sq, rfl, rfl, _, rfl, iteNS rfl ?_⟩
    refine ⟨_, rfl, a, _, 2, .ref g, rfl, rfl, sq, rfl, g, rfl, ⟨_, sq2⟩, fun D nD => ?_⟩
    refine lc_tup (xs := us) (fun i H' => ∃ zs, H' D = some (.lst zs) ∧ Same H H' ∧ TrsAt K H' (onces (b.take i)) zs) ⟨[], upd_same, same_new nD, by rw [List.take_zero, onces]; exact TrsAt.nil⟩ (fun i H' _ h => ?_) ?_ ?_
    · obtain ⟨_, _, h, _⟩ := h
      exact (Kt.same h).sq sq2
    · rintro i x H2 hx ⟨zs, e1, e2, e3⟩
      obtain ⟨t, ht, hT⟩ := r.get hx
      refine ⟨rfl, ?_⟩
      obtain ⟨d', rfl⟩ : ∃ d', d = d' + 1 := by
        cases d with
        | zero => exact ok2.elim
        | succ d' => exact ⟨d', rfl⟩
      refine ⟨_, rfl, x, t, rfl, TrAt.kt (Kt.same e2) t x hT, ⟨by rw [wfs, wfs]; exact ⟨wfs_get ok2.1 ht, trivial⟩, by show 1 ≤ 1000; decide⟩, fun v' H3 sm tr => ?_⟩
      have kt : Kt H3 (upd H3 D (.lst (zs ++ [v']))) := Kt.but But.upd (sm _ _ e1)
      refine ⟨zs, sm _ _ e1, ?_, _, upd_same, same_upd (e2.trans sm) nD, ?_⟩
      · rw [e3.length, onces_map, List.length_map, List.length_take]
        exact small1000 (Nat.le_trans (Nat.min_le_right _ _) ok2.2)
      · rw [onces_map, map_next ht, ← onces_map]
        exact (TrsAt.kt ((Kt.same sm).trans kt) _ _ e3).append (TrsAt.one (TrAt.kt kt _ _ tr))
    · rintro H2 ⟨zs, e1, e2, e3⟩
      rw [r.length, take_all] at e3
      refine ⟨D, zs, rfl, .inl ⟨SqL.of e1, fun t nt => ?_⟩⟩
      refine ⟨(by show 3 ≤ sizeLine; decide), fun t2 nt2 => ?_⟩
      refine q _ _ (e2.trans ((same_new nt).trans (same_new nt2))) ?_
      rw [Tr.once, TrAt]
      exact ⟨t2, t, zs, rfl, SqT.of upd_same, (Kt.same (same_new nt2)).sq (SqT.of upd_same), TrsAt.kt ((Kt.same (same_new nt)).trans (Kt.same (same_new nt2))) _ _ e3⟩
theorem ok_once (M : Bl mg) (F : At K mg "_law_once" sOnce ["_law_item_here"]) : ∀ d, Has P w K mg base d "_law_once" ["_law_item_here"] (spOnce K d)
  | 0 => Has.none F fun vs H Q E ⟨_, _, _, _, h, _⟩ => h
  | d + 1 => ok_once1 M F (ok_once M F d)
/-! ### walked -/
def spWalked (K : PySem.W.Frag) (d : Nat) : Sp := fun vs H Q _ => ∃ v b, vs = [v] ∧ BodyAt K H b v ∧ okB d b ∧ ∀ p H', Same H H' → H' p = some (.tup [.int (szs b), .int (deps b)]) → Q (.ref p) H'
theorem ok_walked1 (M : Bl mg) (F : At K mg "_law_walked" sWalked ["_law_tree"]) {d k : Nat} (h : Has P w K mg base k "_law_walked" ["_law_tree"] (spWalked K d)) : Has P w K mg base (k + 1) "_law_walked" ["_law_tree"] (spWalked K (d + 1)) := by
  obtain ⟨_, _, cWalked⟩ := h
  refine Has.by F scWalked (fun vs H Q E h => ?_) (fun f cdv A out s H vs Q E hg hr h => ?_)
  · obtain ⟨_, _, rfl, _⟩ := h
    rfl
  obtain ⟨v, b, rfl, ⟨c, us, rfl, sq, r⟩, ok, q⟩ := h
  refine ⟨_, (pss_cons (ps_asg (pe_tup (pa_cons pe_int (pa_cons pe_int pa_nil))) (pg_tup rfl (pgs_cons (pg_name (i := 1) scWalked.nd rfl (.inl rfl)) (pgs_cons (pg_name (i := 2) scWalked.nd rfl (.inl rfl)) pgs_nil))))
  (pss_cons (ps_for PassesOwn.never rfl (pi_tup (pv 0)) (pg_name (i := 3) scWalked.nd rfl (.inl rfl))
    (pss_cons (ps_set (i := 1) scWalked.nd rfl (.inl rfl) (pe_op op_add (pv 1) pe_int))
  (pss_one (ps_if (pt_cmpR op_eq (pe_ix ix_tup (pv 3) pe_int (fun _ _ => rfl)) pe_str (nomark _))
    (pss_cons (ps_asg (pe_cal cWalked hg hr (by rfl) (pa_cons (pe_ix ix_tup (pv 3) pe_int (fun _ _ => rfl)) pa_nil)) (pg_tup rfl (pgs_cons (pg_name (i := 4) scWalked.nd rfl (.inl rfl)) (pgs_cons (pg_name (i := 5) scWalked.nd rfl (.inl rfl)) pgs_nil))))
  (pss_one (ps_par (i := 1) (j := 2) (by rfl) scWalked.nd rfl rfl (by decide) rfl rfl (pa_cons (pe_op op_add (pv 1) (pv 4)) (pa_cons (pe_callB (call_max2 rfl) (by rfl) M.max_ (by decide +kernel) (pa_cons (pv 2) (pa_cons (pe_op op_add pe_int (pv 5)) pa_nil))) pa_nil)) (by rfl))))
    pss_nil))))
  (pss_one (ps_ret (pe_tup (pa_cons (pv 1) (pa_cons (pv 2) pa_nil))))))), ?_⟩
  refine ⟨(by show 2 ≤ sizeLine; decide), fun p0 np0 => ⟨p0, _, rfl, SqT.of upd_same, rfl, _, _, rfl, _, _, rfl, rfl, ?_⟩⟩
  refine ⟨_, rfl, c, rfl, ⟨_, (Kt.same (same_new np0)).sq sq⟩, ?_⟩
  refine for_tup (xs := us) (fun i σ H' => ∃ y3 y4 y5, σ = [some (.ref c), some (.int (((b.take i).length : Int) + inns (b.take i))), some (.int (deps (b.take i))), y3, y4, y5] ∧ Same H H') ⟨none, none, none, rfl, same_new np0⟩ (fun i σ H' _ h => ?_) ?_ ?_
  · obtain ⟨_, _, _, _, h⟩ := h
    exact (Kt.same h).sq sq
  · rintro i x σ H2 hx ⟨y3, y4, y5, rfl, e2⟩
    obtain ⟨t, ht, hT⟩ := r.get hx
    have hT := TrAt.kt (Kt.same e2) t x hT
    have l1 : ((b.take (i + 1)).length : Int) = (b.take i).length + 1 := by
      rw [List.take_add_one, ht, List.length_append]
      rfl
    have l2 : inns (b.take (i + 1)) = inns (b.take i) + t.inn := by rw [inns_map, inns_map, sum_next ht]
    refine ⟨_, rfl, _, _, rfl, rfl, ?_⟩
    rw [l1, l2, deps_next ht]
    cases t with
    | op z as =>
      rw [TrAt] at hT
      obtain ⟨a, rfl, sq3⟩ := hT
      refine ⟨_, rfl, a, _, 0, .str z, rfl, rfl, sq3, at0, rfl, _, rfl, iteN (fun e => okB_op ok ht (V.str.inj e)) ?_⟩
      refine ⟨some (.ref a), y4, y5, ?_, e2⟩
      rw [Tr.inn, Tr.dep, if_neg (by have := deps_nn (b.take i); omega), Int.add_zero, Int.add_right_comm]
      rfl
    | loop m b' =>
      rw [TrAt] at hT
      obtain ⟨a, g, ws, rfl, sq3, sq4, r2⟩ := hT
      obtain ⟨c0, c1, ok2⟩ := okB_loop ok ht
      refine ⟨_, rfl, a, _, 0, .str "loop", rfl, rfl, sq3, rfl, rfl, _, rfl, iteP rfl ?_⟩
      refine ⟨_, rfl, a, _, 2, .ref g, rfl, rfl, sq3, rfl, _, b', rfl, ⟨g, ws, rfl, sq4, r2⟩, ok2, fun p H3 sm hp => ?_⟩
      refine ⟨p, _, rfl, SqT.of hp, rfl, _, _, rfl, _, _, rfl, rfl, ?_⟩
      refine ⟨_, rfl, _, rfl, _, _, rfl, rfl, _, rfl, _, rfl, 1, _, rfl, rfl, _, _, rfl, _, _, rfl, ?_⟩
      refine ⟨some (.ref a), some (.int (szs b')), some (.int (deps b')), ?_, e2.trans sm⟩
      rw [Tr.inn, Tr.dep]
      show _ = [_, some (V.int ((b.take i).length + 1 + (inns (b.take i) + szs b'))), _, _, _, _]
      rw [show ((b.take i).length : Int) + 1 + (inns (b.take i) + szs b') = ((b.take i).length : Int) + inns (b.take i) + 1 + szs b' by omega]
      rfl
  · rintro σ H2 ⟨y3, y4, y5, rfl, e2⟩
    rw [r.length, take_all]
    refine ⟨_, rfl, _, rfl, (by show 2 ≤ sizeLine; decide), fun p np => ?_⟩
    exact q p _ (e2.trans (same_new np)) upd_same
theorem ok_walked (M : Bl mg) (F : At K mg "_law_walked" sWalked ["_law_tree"]) : ∀ d, Has P w K mg base d "_law_walked" ["_law_tree"] (spWalked K d)
  | 0 => Has.none F fun vs H Q E ⟨_, _, _, _, h, _⟩ => h
  | d + 1 => ok_walked1 M F (ok_walked M F d)
/-! ### great -/
def spGreat (K : PySem.W.Frag) (n : Nat) : Sp := fun vs H Q _ => ∃ (u : Addr) (v : V) (b : List Tr) (l d : Nat) (G : Str → List Int → Prop) (R : Int → Prop), vs = [.ref u, v] ∧ Urn H u ∧ BodyAt K H b v ∧ okB n b ∧ b.length ≤ l ∧ mades G R b l d ∧ (∀ z as, G z as → z ∈ W7) ∧ max 1 l * most d l ≤ 100000 ∧
  ∀ g v' H', grs b g → BodyAt K H' g v' → Urn H' u → But u H H' → Q v' H'
theorem okB_of_grs {n : Nat} {b g : List Tr} (h : grs b g) (ok : okB n b) : okB n g := by
  cases n with
  | zero => exact ok.elim
  | succ n =>
    obtain ⟨_, _, _, e4, _, _, e7⟩ := grs_all b g h
    exact ⟨e4 n ok.1, by rw [e7.1]; exact ok.2⟩
theorem mades_get : ∀ {G : Str → List Int → Prop} {R : Int → Prop} {b : List Tr} {l d i : Nat} {t : Tr}, mades G R b l d → b[i]? = some t → t.made G R l d
  | _, _, [], _, _, _, _, _, e => by simp at e
  | _, _, t :: r, _, _, 0, u, h, e => by
    cases e
    rw [mades] at h
    exact h.1
  | _, _, t :: r, _, _, i + 1, u, h, e => by
    rw [mades] at h
    exact mades_get (i := i) h.2 e
theorem most_half {l d : Nat} (hb : max 1 l * most (d + 1) l ≤ 100000) : max 1 (l / 2) * most d (l / 2) ≤ 100000 := by
  have h0 : most (d + 1) l ≤ 100000 := Nat.le_trans (Nat.le_mul_of_pos_left _ (by omega)) hb
  rw [most] at h0
  have h1 : 3 * (l / 2 * most d (l / 2)) ≤ 100000 := Nat.le_trans (Nat.le_max_right _ _) h0
  by_cases z : l / 2 = 0
  · rw [z, most0]
    decide
  · rw [show max 1 (l / 2) = l / 2 by omega]
    omega
theorem wfs_onces {n : Nat} {b : List Tr} {G : Str → List Int → Prop} {R : Int → Prop} {l d : Nat} (hG : ∀ z as, G z as → z ∈ W7) (hl : l ≤ 1000) (h : mades G R b l d) : wfs (onces b) d :=
  mades_wf hG (fun k e => by subst e; exact ⟨by decide, by decide⟩) _ l d hl (mades_once b l d h)
end
end K06
set_option Elab.async false
set_option linter.all false
set_option maxRecDepth 100000
namespace K06
open PySem PySem.Spec PyProof.Rows L2 Lj
section
variable {P : Program} {w : World} {K : PySem.W.Frag} {mg : Str → Option Value} {base : Heap}
theorem flat_strs (ss : List Str) : (ss.map V.str).all flatV = true := by
  induction ss with
  | nil => rfl
  | cons s r ih => exact ih
theorem inV_strs {z : Str} : ∀ {ss : List Str}, inV (.str z) (ss.map V.str) = true ↔ z ∈ ss
  | [] => by
    show (false = true) ↔ _
    simp
  | s :: r => by
    show (s == z || inV (.str z) (r.map V.str)) = true ↔ _
    rw [Bool.or_eq_true, inV_strs, List.mem_cons, beq_iff_eq]
    constructor
    · rintro (h | h)
      · exact .inl h.symm
      · exact .inr h
    · rintro (h | h)
      · exact .inl h.symm
      · exact .inr h
mutual
theorem Tr.wf_once : ∀ (t : Tr) (n : Nat), t.wf n → t.once.wf n
  | .op w as, n, h => by
    rw [Tr.once]
    exact h
  | .loop k b, 0, h => by rw [Tr.wf] at h; exact h.elim
  | .loop k b, n + 1, h => by
    rw [Tr.wf] at h
    rw [Tr.once, Tr.wf]
    exact ⟨by decide, by decide, by rw [onces_map, List.length_map]; exact h.2.2.1, wfs_once b n h.2.2.2⟩
theorem wfs_once : ∀ (b : List Tr) (n : Nat), wfs b n → wfs (onces b) n
  | [], n, _ => by rw [onces, wfs]; trivial
  | t :: r, n, h => by
    rw [wfs] at h
    rw [onces, wfs]
    exact ⟨Tr.wf_once t n h.1, wfs_once r n h.2⟩
end
theorem words_next {b : List Tr} {i : Nat} {t : Tr} (e : b[i]? = some t) : ((b.take (i + 1)).map Tr.word).map V.str = ((b.take i).map Tr.word).map V.str ++ [.str t.word] := by
  rw [map_next e, List.map_append]
  rfl
theorem ok_great1 (M : Bl mg) (F : At K mg "_law_great" sGreat ["_law_urn_here", "_law_tree"]) {n k : Nat} (h : Has P w K mg base k "_law_great" ["_law_urn_here", "_law_tree"] (spGreat K n))
    (h1 : Has P w K mg base k "_law_of" ["_law_urn_here", "_law_items"] (spOf K)) (h2 : Has P w K mg base k "_law_take" ["_law_urn_here", "_law_below"] spTake)
    (h3 : Has P w K mg base k "_law_executed" ["_law_tree"] (spExec K n)) (h4 : Has P w K mg base k "_law_once" ["_law_item_here"] (spOnce K n)) : Has P w K mg base (k + 1) "_law_great" ["_law_urn_here", "_law_tree"] (spGreat K (n + 1)) := by
  obtain ⟨_, _, cGreat⟩ := h
  obtain ⟨_, _, cOf⟩ := h1
  obtain ⟨_, _, cTake⟩ := h2
  obtain ⟨_, _, cExecuted⟩ := h3
  obtain ⟨_, _, cOnce⟩ := h4
  refine Has.by F scGreat (fun vs H Q E h => ?_) (fun f cdv A out s H vs Q E hg hr h => ?_)
  · obtain ⟨_, _, _, _, _, _, _, rfl, _⟩ := h
    rfl
  obtain ⟨u, v, b, l, d, G, R, rfl, hU, ⟨c, us, rfl, sq, r⟩, ok, hl, mad, hG, hm, q⟩ := h
  refine ⟨_, (pss_cons (ps_set (i := 2) scGreat.nd rfl (.inl rfl) (pe_lst pa_nil))
  (pss_cons (ps_for PassesOwn.never rfl (pi_tup (pv 1)) (pg_name (i := 3) scGreat.nd rfl (.inl rfl))
    (pss_one (ps_if (pt_cmpR op_eq (pe_ix ix_tup (pv 3) pe_int (fun _ _ => rfl)) pe_str (nomark _))
    (pss_cons (ps_set (i := 4) scGreat.nd rfl (.inl rfl) (pe_cal cGreat hg hr (by rfl) (pa_cons (pv 0) (pa_cons (pe_ix ix_tup (pv 3) pe_int (fun _ _ => rfl)) pa_nil))))
  (pss_cons (ps_setLc (i := 5) (own := [("_law_one", 7)]) (g := gName 7) (by rfl) scGreat.nd rfl rfl (sw_true rfl rfl rfl (by decide +kernel)) (pi_list (pe_cal cExecuted hg hr (by rfl) (pa_cons (pe_callTy call_tuple_of (by rfl) M.tuple_ (by decide +kernel) (pa_cons (pe_lc (own := [("_law_one", 7)]) (g := gName 7) (by rfl) scGreat.nd (pi_tup (pv 4)) (blkOk_by (own := [("_law_one", 7)]) (N := ["_law_urn_here", "_law_tree", "_law_found", "_law_item_here", "_law_inner", "_law_words_here", "_law_great_here", "_law_one"]) (sc := defScope sGreat) (by decide +kernel)) (fun _ _ _ _ _ => (pg_name (i := 7) scGreat.nd rfl (.inl rfl))) (fun _ _ _ _ _ => pts_nil) (fun _ _ _ _ _ => (pe_cal cOnce hg hr (by rfl) (pa_cons (pv 7) pa_nil)))) pa_nil)) pa_nil))) (blkOk_by (own := [("_law_one", 7)]) (N := ["_law_urn_here", "_law_tree", "_law_found", "_law_item_here", "_law_inner", "_law_words_here", "_law_great_here", "_law_one"]) (sc := defScope sGreat) (by decide +kernel)) (fun _ _ _ _ _ => (pg_name (i := 7) scGreat.nd rfl (.inl rfl))) (fun _ _ _ _ _ => pts_nil) (fun _ _ _ _ _ => (pe_ix (ix_tupK (K := K) rfl) (pv 7) pe_int (fun _ _ => rfl))))
  (Evl.pss_cut (ps_set (i := 6) scGreat.nd rfl (.inl rfl) (pe_and (pe_cmpR op_notIn_seq pe_str (pv 5) (by rfl)) (pe_one (pe_cmpR op_notIn_seq pe_str (pv 5) (by rfl)))))
  (pss_one (ps_expr (pe_bm PySem.F.plainAttrs_list PySem.F.slot_list_append PySem.F.type_list_append mt_append (pv 2) (pa_cons (pe_tup (pa_cons pe_str (pa_cons (pe_ifExp (pt_val (pv 6)) (pe_cal cOf hg hr (by rfl) (pa_cons (pv 0) (pa_cons (pe_lst (pa_cons (pe_op op_pow pe_int pe_int) (pa_cons (pe_cal cTake hg hr (by rfl) (pa_cons (pv 0) (pa_cons (pe_op op_pow pe_int pe_int) pa_nil))) pa_nil))) pa_nil))) (pe_ix ix_tup (pv 3) pe_int (fun _ _ => rfl))) (pa_cons (pv 4) pa_nil)))) pa_nil)))))))
    (pss_one (ps_expr (pe_bm PySem.F.plainAttrs_list PySem.F.slot_list_append PySem.F.type_list_append mt_append (pv 2) (pa_cons (pv 3) pa_nil)))))))
  (pss_one (ps_ret (pe_callTy call_tuple_of (by rfl) M.tuple_ (by decide +kernel) (pa_cons (pv 2) pa_nil)))))), ?_⟩
  refine ⟨Nat.zero_le _, fun fo nfo => ?_⟩
  have nfu : fo ≠ u := hU.ne nfo
  refine ⟨_, rfl, c, rfl, ⟨_, (Kt.same (same_new nfo)).sq sq⟩, ?_⟩
  refine for_tup (xs := us) (fun i σ H' => ∃ gs zs y3 y4 y5 y6, σ = [some (.ref u), some (.ref c), some (.ref fo), y3, y4, y5, y6, none] ∧ Urn H' u ∧ But u H H' ∧ H' fo = some (.lst zs) ∧ TrsAt K H' gs zs ∧ grs (b.take i) gs)
    ⟨[], [], none, none, none, none, rfl, hU.same (same_new nfo), But.new nfo, upd_same, TrsAt.nil, by rw [List.take_zero, grs]⟩ ?_ ?_ ?_
  · rintro i σ H' _ ⟨_, _, _, _, _, _, _, _, bb, _⟩
    exact (hU.kt bb).sq sq
  · rintro i x σ H2 hx ⟨gs, zs, y3, y4, y5, y6, rfl, u2, b2, h2, tr2, hgr2⟩
    obtain ⟨t, ht, hT⟩ := r.get hx
    have hT := TrAt.kt (hU.kt b2) t x hT
    have hgl : gs.length = (b.take i).length := by
      obtain ⟨_, _, _, _, _, _, e7⟩ := grs_all _ _ hgr2
      exact e7.1
    cases t with
    | op z as =>
      have hT0 := hT
      rw [TrAt] at hT
      obtain ⟨a, rfl, sq3⟩ := hT
      refine ⟨_, rfl, a, _, 0, .str z, rfl, rfl, sq3, at0, rfl, _, rfl, iteN (fun e => okB_op ok ht (V.str.inj e)) ?_⟩
      refine ⟨_, rfl, .inl ⟨rfl, _, SqL.of h2⟩, _, rfl, fo, _, _, rfl, rfl, h2, ?_, ?_⟩
      · rw [tr2.length, hgl]
        exact small1000 (by rw [List.length_take]; have := ok.2; omega)
      · have kt : Kt H2 (upd H2 fo (.lst (zs ++ [.ref a]))) := Kt.but But.upd h2
        refine ⟨gs ++ [.op z as], _, _, _, _, _, rfl, u2.but (q := fo) But.upd nfu.symm, fun x o hx ho => ?_, upd_same, (TrsAt.kt kt _ _ tr2).append (TrsAt.one (TrAt.kt kt _ _ hT0)), ?_⟩
        · rw [upd_ne (ne_of_none ho nfo)]
          exact b2 _ _ hx ho
        · rw [List.take_add_one, ht]
          refine grs_snoc hgr2 ?_
          rw [Tr.gr]
    | loop m b' =>
      rw [TrAt] at hT
      obtain ⟨a, g0, ws, rfl, sq3, sq4, r2⟩ := hT
      obtain ⟨c0, c1, ok2⟩ := okB_loop ok ht
      have mt := mades_get mad ht
      obtain ⟨d', rfl⟩ : ∃ d', d = d' + 1 := by
        cases d with
        | zero => rw [Tr.made] at mt; exact mt.elim
        | succ d' => exact ⟨d', rfl⟩
      rw [Tr.made] at mt
      refine ⟨_, rfl, a, _, 0, .str "loop", rfl, rfl, sq3, rfl, rfl, _, rfl, iteP rfl ?_⟩
      refine ⟨_, rfl, _, rfl, a, _, 2, .ref g0, rfl, rfl, sq3, rfl, u, _, b', l / 2, d', G, R, rfl, u2, ⟨g0, ws, rfl, sq4, r2⟩, ok2, mt.2.1, mt.2.2, hG, most_half hm, fun g v3 H3 hgr body3 u3 b3 => ?_⟩
      obtain ⟨c3, vs3, rfl, sq3', tr3⟩ := body3
      have okg := okB_of_grs hgr ok2
      obtain ⟨n', rfl⟩ : ∃ n', n = n' + 1 := by
        cases n with
        | zero => exact okg.elim
        | succ n' => exact ⟨n', rfl⟩
      obtain ⟨_, _, _, _, e5, _, e7⟩ := grs_all _ _ hgr
      have mg1 := mades_once _ _ _ (e5 G R _ _ mt.2.2)
      have lg1 : (onces g).length ≤ l / 2 := by
        rw [onces_map, List.length_map, e7.1]
        exact mt.2.1
      have r1 : ∀ k : Int, k = 1 → 0 ≤ k ∧ k ≤ 3 := fun k e => by subst e; exact ⟨by decide, by decide⟩
      have fin1 := mades_fine hG r1 _ _ _ (most_half hm) mg1
      have big1 := mades_big r1 lg1 (most_half hm) mg1
      have ops1 := fines_ops _ fin1
      -- tuple([once(one) for one in inner])
      refine ⟨_, rfl, c3, rfl, ⟨_, sq3'⟩, fun D nD => ?_⟩
      refine lc_tup (xs := vs3) (fun j H' => ∃ ys, H' D = some (.lst ys) ∧ Same H3 H' ∧ TrsAt K H' (onces (g.take j)) ys) ⟨[], upd_same, same_new nD, by rw [List.take_zero, onces]; exact TrsAt.nil⟩ (fun j H' _ h => ?_) ?_ ?_
      · obtain ⟨_, _, h, _⟩ := h
        exact (Kt.same h).sq sq3'
      · rintro j x H4 hx ⟨ys, e1, e2, e3⟩
        obtain ⟨t, ht, hT⟩ := tr3.get hx
        refine ⟨rfl, ?_⟩
        refine ⟨_, rfl, x, t, rfl, TrAt.kt (Kt.same e2) t x hT, ⟨by rw [wfs, wfs]; exact ⟨wfs_get okg.1 ht, trivial⟩, by show 1 ≤ 1000; decide⟩, fun v' H5 sm tr => ?_⟩
        have kt : Kt H5 (upd H5 D (.lst (ys ++ [v']))) := Kt.but But.upd (sm _ _ e1)
        refine ⟨ys, sm _ _ e1, ?_, _, upd_same, same_upd (e2.trans sm) nD, ?_⟩
        · rw [e3.length, onces_map, List.length_map, List.length_take]
          exact small1000 (Nat.le_trans (Nat.min_le_right _ _) okg.2)
        · rw [onces_map, map_next ht, ← onces_map]
          exact (TrsAt.kt ((Kt.same sm).trans kt) _ _ e3).append (TrsAt.one (TrAt.kt kt _ _ tr))
      rintro H4 ⟨ys, e1, e2, e3⟩
      rw [tr3.length, take_all] at e3
      refine ⟨D, ys, rfl, .inl ⟨SqL.of e1, fun t4 nt4 => ?_⟩⟩
      refine ⟨_, onces g, rfl, ⟨t4, ys, rfl, SqT.of upd_same, TrsAt.kt (Kt.same (same_new nt4)) _ _ e3⟩, ⟨wfs_once _ _ okg.1, by rw [onces_map, List.length_map]; exact okg.2⟩, fin1, big1, fun H5 l5 us5 s5 n5 h5 t5 => ?_⟩
      have s35 : Same H3 H5 := (e2.trans (same_new nt4)).trans s5
      refine ⟨l5, rfl, ⟨_, SqL.of h5⟩, fun D2 nD2 => ?_⟩
      have n2 : l5 ≠ D2 := ne_of_none h5 nD2
      refine lc_list (xs := us5) (fun j H' => H' D2 = some (.lst ((((exs (onces g)).take j).map Tr.word).map V.str)) ∧ Same H5 H') ⟨upd_same, same_new nD2⟩ (fun j H' _ h => SqL.of (h.2 _ _ h5)) ?_ ?_
      · rintro j x H6 hx ⟨e4, e5⟩
        obtain ⟨t, ht, hT⟩ := t5.get hx
        have hT := TrAt.kt (Kt.same e5) t x hT
        obtain ⟨z, as, rfl, _⟩ := ops1 t (List.mem_of_getElem? ht)
        rw [TrAt] at hT
        obtain ⟨a6, rfl, sq6⟩ := hT
        refine ⟨rfl, ?_⟩
        refine ⟨_, rfl, a6, _, 0, .str z, rfl, rfl, sq6, at0, _, e4, ?_, ?_, same_upd e5 nD2⟩
        · rw [List.length_map, List.length_map, List.length_take, sizeLine_eq]
          omega
        · rw [upd_same, words_next ht]
          rfl
      rintro H6 ⟨e4, e5⟩
      rw [t5.length, take_all] at e4
      have s6 : Same H3 H6 := s35.trans e5
      have u6 := u3.same s6
      -- nothing is read or written
      refine ⟨fun σ H' => ∃ gh : Bool, σ = [some (.ref u), some (.ref c), some (.ref fo), some (.ref a), some (.ref c3), some (.ref D2), some (.bl gh), none] ∧ H' = H6 ∧ (gh = true → NoW "read" g ∧ NoW "write" g), ?_, ?_⟩
      · refine ⟨_, rfl, D2, _, rfl, .inl (SqL.of e4), rfl, flat_strs _, _, rfl, ite2 (fun i1 => ?_) (fun i1 => ?_)⟩
        · refine ⟨_, rfl, D2, _, rfl, .inl (SqL.of e4), rfl, flat_strs _, _, rfl, rfl, fun i2 => ⟨fun z => ?_, fun z => ?_⟩⟩
          · have i1 : (!inV (.str "read") _) = true := i1
            rw [inV_strs.mpr z] at i1
            cases i1
          · have i2 : (!inV (.str "write") _) = true := i2
            rw [inV_strs.mpr z] at i2
            cases i2
        · exact ⟨false, rfl, rfl, fun z => by cases z⟩
      rintro σ' H' ⟨gh, rfl, rfl, hno⟩
      have h6 := s6 _ _ (b3 _ _ nfu h2)
      refine ⟨_, rfl, .inl ⟨rfl, _, SqL.of h6⟩, _, rfl, gh, rfl, ?_⟩
      cases gh with
      | true =>
        refine iteT ?_
        refine ⟨_, rfl, 10, 18, rfl, rfl, ⟨by decide, by decide, by decide⟩, _, rfl, 10, 18, rfl, rfl, ⟨by decide, by decide, by decide⟩, u, _, rfl, u6, by decide, wide_big (by decide) (by decide), fun z H7 z0 z1 u7 b7 => ?_⟩
        refine ⟨(by show 2 ≤ sizeLine; decide), fun l8 nl8 => ?_⟩
        refine ⟨u, l8, _, rfl, u7.same (same_new nl8), u7.ne nl8, SqL.of upd_same, (by intro z; cases z), (by show 2 ≤ 1000; decide), fun kk H9 hk u9 b9 => ?_⟩
        obtain ⟨k', rfl, k0, k1⟩ : ∃ k' : Int, kk = .int k' ∧ 0 ≤ k' ∧ k' ≤ 10 ^ 18 := by
          simp only [List.mem_cons, List.not_mem_nil, or_false] at hk
          rcases hk with rfl | rfl
          · exact ⟨10 ^ 18, rfl, by decide, by decide⟩
          · have z1 : z < 10 ^ 18 := z1
            exact ⟨z, rfl, z0, by omega⟩
        have b79 : But u H' H9 := (b7.trans (But.new nl8)).trans b9
        have h9' := b79 _ _ nfu h6
        refine ⟨_, rfl, (by show 3 ≤ sizeLine; decide), fun t nt => ?_⟩
        have h9 : (upd H9 t (.tup [.str "loop", .int k', .ref c3])) fo = some (.lst zs) := same_new nt _ _ h9'
        have kt9 : Kt (upd H9 t (.tup [.str "loop", .int k', .ref c3])) (upd (upd H9 t (.tup [.str "loop", .int k', .ref c3])) fo (.lst (zs ++ [.ref t]))) := Kt.but But.upd h9
        have kt8 := (Kt.same (same_new (o := .tup [.str "loop", .int k', .ref c3]) nt)).trans kt9
        have kt6 : Kt H' _ := ((u6.kt b79)).trans kt8
        refine ⟨fo, _, _, rfl, rfl, h9, ?_, ?_⟩
        · rw [tr2.length, hgl]
          exact small1000 (by rw [List.length_take]; have := ok.2; omega)
        · refine ⟨gs ++ [.loop k' g], zs ++ [.ref t], _, _, _, _, rfl, (u9.same (same_new nt)).but (q := fo) But.upd nfu.symm, fun x o hx ho => ?_, upd_same, (TrsAt.kt ((u2.kt (b3.trans (But.same s6))).trans kt6) _ _ tr2).append (TrsAt.one ?_), ?_⟩
          · rw [upd_ne (ne_of_none ho nfo)]
            exact same_new nt _ _ (b79 _ _ hx (s6 _ _ (b3 _ _ hx (b2 _ _ hx ho))))
          · rw [TrAt]
            exact ⟨t, c3, vs3, rfl, kt9.sq (SqT.of upd_same), kt6.sq ((Kt.same s6).sq sq3'), TrsAt.kt ((Kt.same s6).trans kt6) _ _ tr3⟩
          · rw [List.take_add_one, ht]
            refine grs_snoc hgr2 ?_
            rw [Tr.gr]
            exact ⟨k', g, rfl, k0, k1, hgr, .inr (hno rfl)⟩
      | false =>
        refine iteF ?_
        refine ⟨_, rfl, a, _, 1, .int m, rfl, rfl, (Kt.same s6).sq ((u2.kt b3).sq sq3), rfl, ?_⟩
        refine ⟨_, rfl, (by show 3 ≤ sizeLine; decide), fun t nt => ?_⟩
        have h9 : (upd H' t (.tup [.str "loop", .int m, .ref c3])) fo = some (.lst zs) := same_new nt _ _ h6
        have kt9 : Kt (upd H' t (.tup [.str "loop", .int m, .ref c3])) (upd (upd H' t (.tup [.str "loop", .int m, .ref c3])) fo (.lst (zs ++ [.ref t]))) := Kt.but But.upd h9
        have kt8 := (Kt.same (same_new (o := .tup [.str "loop", .int m, .ref c3]) nt)).trans kt9
        have kt6 : Kt H' _ := kt8
        refine ⟨fo, _, _, rfl, rfl, h9, ?_, ?_⟩
        · rw [tr2.length, hgl]
          exact small1000 (by rw [List.length_take]; have := ok.2; omega)
        · refine ⟨gs ++ [.loop m g], zs ++ [.ref t], _, _, _, _, rfl, (u6.same (same_new nt)).but (q := fo) But.upd nfu.symm, fun x o hx ho => ?_, upd_same, (TrsAt.kt ((u2.kt (b3.trans (But.same s6))).trans kt6) _ _ tr2).append (TrsAt.one ?_), ?_⟩
          · rw [upd_ne (ne_of_none ho nfo)]
            exact same_new nt _ _ ((s6 _ _ (b3 _ _ hx (b2 _ _ hx ho))))
          · rw [TrAt]
            exact ⟨t, c3, vs3, rfl, kt9.sq (SqT.of upd_same), kt6.sq ((Kt.same s6).sq sq3'), TrsAt.kt ((Kt.same s6).trans kt6) _ _ tr3⟩
          · rw [List.take_add_one, ht]
            refine grs_snoc hgr2 ?_
            rw [Tr.gr]
            exact ⟨m, g, rfl, c0, c1, hgr, .inl rfl⟩
  · rintro σ H2 ⟨gs, zs, y3, y4, y5, y6, rfl, u2, b2, h2, tr2, hgr2⟩
    rw [r.length, take_all] at hgr2
    refine ⟨_, rfl, fo, zs, rfl, .inl ⟨SqL.of h2, fun t nt => ?_⟩⟩
    exact q gs (.ref t) _ hgr2 ⟨t, zs, rfl, SqT.of upd_same, TrsAt.kt (Kt.same (same_new nt)) _ _ tr2⟩ (u2.same (same_new nt)) (b2.trans (But.new nt))
theorem ok_great (M : Bl mg) (F : At K mg "_law_great" sGreat ["_law_urn_here", "_law_tree"]) {k : Nat} (h1 : Has P w K mg base k "_law_of" ["_law_urn_here", "_law_items"] (spOf K)) (h2 : Has P w K mg base k "_law_take" ["_law_urn_here", "_law_below"] spTake)
    (h3 : ∀ n, Has P w K mg base n "_law_executed" ["_law_tree"] (spExec K n)) (h4 : ∀ n, Has P w K mg base n "_law_once" ["_law_item_here"] (spOnce K n)) : ∀ n, Has P w K mg base (k + n) "_law_great" ["_law_urn_here", "_law_tree"] (spGreat K n)
  | 0 => Has.none F fun vs H Q E ⟨_, _, _, _, _, _, _, _, _, _, h, _⟩ => h
  | n + 1 => ok_great1 M F (ok_great M F h1 h2 h3 h4 n) (h1.up (Nat.le_add_right _ _)) (h2.up (Nat.le_add_right _ _)) ((h3 n).up (Nat.le_add_left _ _)) ((h4 n).up (Nat.le_add_left _ _))
end
end K06
set_option Elab.async false
set_option linter.all false
set_option maxRecDepth 100000
namespace K06
open PySem PySem.Spec PyProof.Rows L2 Lj
section
variable {P : Program} {w : World} {K : PySem.W.Frag} {mg : Str → Option Value} {base : Heap}
def spRight (K : PySem.W.Frag) (d : Nat) : Sp := fun vs H Q _ => ∃ v b, vs = [v] ∧ BodyAt K H b v ∧ okB (d + 1) b ∧ fines b ∧ (exs b).length ≤ 100000 ∧ ∀ H', Same H H' → Q (.bl true) H'
theorem szs_bd {b : List Tr} {d : Nat} (h : okB (d + 1) b) (hd : d ≤ 6) : (szs b).natAbs < 2 ^ 1000 ∧ (deps b).natAbs < 2 ^ 1000 := by
  obtain ⟨h0, h1⟩ := inns_bd b d h.1
  have h5 := deps_bd b d h.1
  have h6 := deps_nn b
  have tp := top_pos d
  have h2 : inns b ≤ 1000 * top d := Int.le_trans h1 (Int.mul_le_mul_of_nonneg_right (by have := h.2; omega) (by omega))
  have h3 : 1000 * top d < 2 ^ 900 := by
    have : d = 0 ∨ d = 1 ∨ d = 2 ∨ d = 3 ∨ d = 4 ∨ d = 5 ∨ d = 6 := by omega
    rcases this with rfl | rfl | rfl | rfl | rfl | rfl | rfl <;> decide +kernel
  have h4 : (2 : Int) ^ 900 + 1000 < 2 ^ 1000 := by decide +kernel
  have h7 := h.2
  unfold szs
  constructor <;> omega
theorem ok_right (M : Bl mg) (F : At K mg "_law_right" sRight ["_law_tree"]) {d k : Nat} (hd : d ≤ 6) (FS : At K mg "step_count" sStep_count ["program"])
    (h1 : Has P w K mg base k "_law_executed" ["_law_tree"] (spExec K (d + 1))) (h2 : Has P w K mg base k "step_count" ["program"] (spTI K (okB (d + 1)) lens))
    (h3 : Has P w K mg base k "read_count" ["program"] (spTI K (okB (d + 1)) (cnts "read"))) (h4 : Has P w K mg base k "write_count" ["program"] (spTI K (okB (d + 1)) (cnts "write")))
    (h5 : Has P w K mg base k "size" ["program"] (spTI K (okB (d + 1)) szs)) (h6 : Has P w K mg base k "depth" ["program"] (spTI K (okB (d + 1)) deps)) (h7 : Has P w K mg base k "_law_walked" ["_law_tree"] (spWalked K (d + 1))) :
    Has P w K mg base (k + 1) "_law_right" ["_law_tree"] (spRight K d) := by
  obtain ⟨_, _, cExecuted⟩ := h1
  obtain ⟨_, _, cStep_count⟩ := h2
  obtain ⟨_, _, cRead_count⟩ := h3
  obtain ⟨_, _, cWrite_count⟩ := h4
  obtain ⟨_, _, cSize⟩ := h5
  obtain ⟨_, _, cDepth⟩ := h6
  obtain ⟨_, _, cWalked⟩ := h7
  have kStep_count := kb1 (p := "program") (cStep_count.text FS) (fun _ _ _ _ _ _ _ => rfl)
  refine Has.by F scRight (fun vs H Q E h => ?_) (fun f cdv A out s H vs Q E hg hr h => ?_)
  · obtain ⟨_, _, rfl, _⟩ := h
    rfl
  obtain ⟨v, b, rfl, hB, ok, fin, big, q⟩ := h
  refine ⟨_, (pss_cons (ps_setLc (i := 1) (own := [("_law_item_here", 4)]) (g := gName 4) (by rfl) scRight.nd rfl rfl (sw_true rfl rfl rfl (by decide +kernel)) (pi_list (pe_cal cExecuted hg hr (by rfl) (pa_cons (pv 0) pa_nil))) (blkOk_by (own := [("_law_item_here", 4)]) (N := ["_law_tree", "_law_words_here", "_law_told", "_law_due", "_law_item_here"]) (sc := defScope sRight) (by decide +kernel)) (fun _ _ _ _ _ => (pg_name (i := 4) scRight.nd rfl (.inl rfl))) (fun _ _ _ _ _ => pts_nil) (fun _ _ _ _ _ => (pe_ix (ix_tupK (K := K) rfl) (pv 4) pe_int (fun _ _ => rfl))))
  (pss_cons (ps_set (i := 2) scRight.nd rfl (.inl rfl) (pe_lst (pa_cons (pe_cal cStep_count hg hr (by rfl) (pa_cons (pv 0) pa_nil)) (pa_cons (pe_cal cRead_count hg hr (by rfl) (pa_cons (pv 0) pa_nil)) (pa_cons (pe_cal cWrite_count hg hr (by rfl) (pa_cons (pv 0) pa_nil)) (pa_cons (pe_cal cSize hg hr (by rfl) (pa_cons (pv 0) pa_nil)) (pa_cons (pe_cal cDepth hg hr (by rfl) (pa_cons (pv 0) pa_nil)) pa_nil)))))))
  (pss_cons (ps_set (i := 3) scRight.nd rfl (.inl rfl) (pe_op op_cat (pe_lst (pa_cons (pe_callB call_len_seq (by rfl) M.len_ (by decide +kernel) (pa_cons (pv 1) pa_nil)) (pa_cons (pe_bm PySem.F.plainAttrs_list PySem.F.slot_list_count PySem.F.type_list_count mt_count_str (pv 1) (pa_cons pe_str pa_nil)) (pa_cons (pe_bm PySem.F.plainAttrs_list PySem.F.slot_list_count PySem.F.type_list_count mt_count_str (pv 1) (pa_cons pe_str pa_nil)) pa_nil)))) (pe_callTy call_list_of (by rfl) M.list_ (by decide +kernel) (pa_cons (pe_cal cWalked hg hr (by rfl) (pa_cons (pv 0) pa_nil)) pa_nil))))
  (pss_one (ps_ret (pe_and (pe_cmpR op_eq (pe_callB (call_reprD hg hr) (by rfl) M.repr_ (by decide +kernel) (pa_cons (pv 2) pa_nil)) (pe_callB (call_reprD hg hr) (by rfl) M.repr_ (by decide +kernel) (pa_cons (pv 3) pa_nil)) (nomark _)) (pe_one (pe_cmpR op_eq (pe_calK0 cStep_count kStep_count hg hr (by rfl) (pk_cons (pv 0) pk_nil)) (pe_callB call_len_seq (by rfl) M.len_ (by decide +kernel) (pa_cons (pv 1) pa_nil)) (nomark _))))))))), ?_⟩
  have ops := fines_ops b fin
  -- the words
  refine ⟨_, rfl, v, b, rfl, hB, ok, fin, big, fun H1 l us s1 n1 h1 t1 => ?_⟩
  refine ⟨l, rfl, ⟨_, SqL.of h1⟩, fun D nD => ?_⟩
  refine lc_list (xs := us) (fun j H' => H' D = some (.lst ((((exs b).take j).map Tr.word).map V.str)) ∧ Same H1 H') ⟨upd_same, same_new nD⟩ (fun j H' _ h => SqL.of (h.2 _ _ h1)) ?_ ?_
  · rintro j x H6 hx ⟨e4, e5⟩
    obtain ⟨t, ht, hT⟩ := t1.get hx
    have hT := TrAt.kt (Kt.same e5) t x hT
    obtain ⟨z, as, rfl, _⟩ := ops t (List.mem_of_getElem? ht)
    rw [TrAt] at hT
    obtain ⟨a6, rfl, sq6⟩ := hT
    refine ⟨rfl, ?_⟩
    refine ⟨_, rfl, a6, _, 0, .str z, rfl, rfl, sq6, at0, _, e4, ?_, ?_, same_upd e5 nD⟩
    · rw [List.length_map, List.length_map, List.length_take, sizeLine_eq]
      omega
    · rw [upd_same, words_next ht]
      rfl
  rintro H2 ⟨e2, s2⟩
  rw [t1.length, take_all] at e2
  have sA : Same H H2 := s1.trans s2
  -- told
  refine ⟨_, rfl, v, b, rfl, hB.kt (Kt.same sA), ok, fun H3 s3 => ?_⟩
  refine ⟨_, rfl, v, b, rfl, hB.kt (Kt.same (sA.trans s3)), ok, fun H4 s4 => ?_⟩
  refine ⟨_, rfl, v, b, rfl, hB.kt (Kt.same ((sA.trans s3).trans s4)), ok, fun H5 s5 => ?_⟩
  refine ⟨_, rfl, v, b, rfl, hB.kt (Kt.same (((sA.trans s3).trans s4).trans s5)), ok, fun H6 s6 => ?_⟩
  refine ⟨_, rfl, v, b, rfl, hB.kt (Kt.same ((((sA.trans s3).trans s4).trans s5).trans s6)), ok, fun H7 s7 => ?_⟩
  have s27 : Same H2 H7 := (((s3.trans s4).trans s5).trans s6).trans s7
  refine ⟨(by show 5 ≤ sizeLine; decide), fun to nto => ?_⟩
  have e7 : (upd H7 to (.lst ([lens b, cnts "read" b, cnts "write" b, szs b, deps b].map V.int))) to = some (.lst ([lens b, cnts "read" b, cnts "write" b, szs b, deps b].map V.int)) := upd_same
  have d7 := (same_new (o := .lst ([lens b, cnts "read" b, cnts "write" b, szs b, deps b].map V.int)) nto) _ _ (s27 _ _ e2)
  -- due
  refine ⟨_, rfl, D, _, rfl, .inl (SqL.of d7), _, rfl, .inl ⟨rfl, _, SqL.of d7⟩, D, _, _, rfl, rfl, SqL.of d7, _, rfl, .inl ⟨rfl, _, SqL.of d7⟩, D, _, _, rfl, rfl, SqL.of d7, (by show 3 ≤ sizeLine; decide), fun l8 nl8 => ?_⟩
  have c1 : ((((exs b).map Tr.word).map V.str).length : Int) = lens b := by
    rw [List.length_map, List.length_map]
    exact exs_len b d ok.1
  have c2 := exs_cnt "read" b d ok.1
  have c3 := exs_cnt "write" b d ok.1
  have e8 : (upd (upd H7 to (.lst ([lens b, cnts "read" b, cnts "write" b, szs b, deps b].map V.int))) l8 (.lst ([lens b, cnts "read" b, cnts "write" b].map V.int))) l8 = some (.lst ([lens b, cnts "read" b, cnts "write" b].map V.int)) := upd_same
  have z8 : [V.int ((((exs b).map Tr.word).map V.str).length : Int), V.int (((exs b).map Tr.word).count ("read" : Str) : Nat), V.int (((exs b).map Tr.word).count ("write" : Str) : Nat)] = [lens b, cnts "read" b, cnts "write" b].map V.int := by
    rw [c1, c2, c3]
    rfl
  rw [z8]
  have s8 : Same (upd H7 to (.lst ([lens b, cnts "read" b, cnts "write" b, szs b, deps b].map V.int))) (upd (upd H7 to (.lst ([lens b, cnts "read" b, cnts "write" b, szs b, deps b].map V.int))) l8 (.lst ([lens b, cnts "read" b, cnts "write" b].map V.int))) := same_new nl8
  have sB : Same H _ := (sA.trans s27).trans ((same_new (o := .lst ([lens b, cnts "read" b, cnts "write" b, szs b, deps b].map V.int)) nto).trans s8)
  refine ⟨_, rfl, v, b, rfl, hB.kt (Kt.same sB), ok, fun p9 H9 s9 hp => ?_⟩
  refine ⟨p9, _, rfl, .inr (SqT.of hp), fun l9 nl9 => ?_⟩
  have s10 := same_new (o := .lst [V.int (szs b), V.int (deps b)]) nl9
  refine ⟨l8, l9, _, _, rfl, rfl, s10 _ _ (s9 _ _ e8), upd_same, (by show 5 ≤ sizeLine; decide), fun du ndu => ?_⟩
  have s11 := same_new (o := .lst ([lens b, cnts "read" b, cnts "write" b, szs b, deps b].map V.int)) ndu
  have told : SqL K _ to ([lens b, cnts "read" b, cnts "write" b, szs b, deps b].map V.int) := SqL.of (s11 _ _ (s10 _ _ (s9 _ _ (s8 _ _ e7))))
  have due : SqL K _ du ([lens b, cnts "read" b, cnts "write" b, szs b, deps b].map V.int) := SqL.of (H := upd (upd H9 l9 (.lst [V.int (szs b), V.int (deps b)])) du (.lst ([lens b, cnts "read" b, cnts "write" b, szs b, deps b].map V.int))) upd_same
  obtain ⟨g1, g2⟩ := szs_bd ok hd
  have g3 := lens_log ok hd
  obtain ⟨g4, g5⟩ := cnts_bd "read" b d ok.1
  obtain ⟨g6, g7⟩ := cnts_bd "write" b d ok.1
  have lf := leaf_list (leaf_ints (ns := [lens b, cnts "read" b, cnts "write" b, szs b, deps b]) (by
    intro n m
    simp only [List.mem_cons, List.not_mem_nil, or_false] at m
    rcases m with rfl | rfl | rfl | rfl | rfl
    · exact g3
    · omega
    · omega
    · exact g1
    · exact g2)) (by show 5 ≤ 8000; decide)
  refine ⟨_, rfl, _, _, rfl, dp_int_list told, lf.1, lf.2.1, lf.2.2.1, lf.2.2.2, _, rfl, _, _, rfl, dp_int_list due, lf.1, lf.2.1, lf.2.2.1, lf.2.2.2, rfl, _, rfl, iteP rfl ?_⟩
  have d11 := s11 _ _ (s10 _ _ (s9 _ _ (s8 _ _ d7)))
  have sC := (sB.trans s9).trans (s10.trans s11)
  refine ⟨_, rfl, v, b, rfl, hB.kt (Kt.same sC), ok, fun H12 s12 => ?_⟩
  refine ⟨_, rfl, D, _, rfl, .inl (SqL.of (s12 _ _ d11)), rfl, ?_⟩
  rw [c1, decide_eq_true rfl]
  exact q H12 (sC.trans s12)
end
end K06
set_option Elab.async false
set_option linter.all false
set_option maxRecDepth 100000
namespace K06
open PySem PySem.Spec PyProof.Rows L2 Lj
section
variable {P : Program} {w : World} {K : PySem.W.Frag} {mg : Str → Option Value} {base : Heap}
def spLaw (K : PySem.W.Frag) : Sp := fun vs H Q _ => ∃ (a : Addr) (ns : List Int), vs = [.ref a] ∧ SqL K H a (ns.map V.int) ∧ ns.length ≤ 63 ∧ ∀ H', Q (.bl true) H'
theorem ok_law (M : Bl mg) (F : At K mg "law" sLaw ["_law_script"]) {k : Nat}
    (h1 : Has P w K mg base k "_law_urn" ["_law_script", "_law_k"] (spUrn K)) (h2 : Has P w K mg base k "_law_take" ["_law_urn_here", "_law_below"] spTake) (h3 : Has P w K mg base k "_law_prime" ["_law_urn_here"] spPrimeU) (h4 : Has P w K mg base k "_law_words" [] spWords)
    (h5 : Has P w K mg base k "_law_body" ["_law_urn_here", "_law_p", "_law_n", "_law_words_here", "_law_length", "_law_deep", "_law_rounds"] (spBody K 5)) (h6 : Has P w K mg base k "_law_right" ["_law_tree"] (spRight K 4)) (h7 : Has P w K mg base k "_law_great" ["_law_urn_here", "_law_tree"] (spGreat K 5))
    (h8 : Has P w K mg base k "_law_steps" ["_law_tree"] (spTI K (okB 6) lens)) (h9 : Has P w K mg base k "step_count" ["program"] (spTI K (okB 6) lens)) (h10 : Has P w K mg base k "read_count" ["program"] (spTI K (okB 6) (cnts "read"))) (h11 : Has P w K mg base k "write_count" ["program"] (spTI K (okB 6) (cnts "write")))
    (h12 : Has P w K mg base k "size" ["program"] (spTI K (okB 6) szs)) (h13 : Has P w K mg base k "depth" ["program"] (spTI K (okB 6) deps)) (h14 : Has P w K mg base k "_law_walked" ["_law_tree"] (spWalked K 6)) :
    Has P w K mg base (k + 1) "law" ["_law_script"] (spLaw K) := by
  obtain ⟨_, _, cUrn⟩ := h1
  obtain ⟨_, _, cTake⟩ := h2
  obtain ⟨_, _, cPrime⟩ := h3
  obtain ⟨_, _, cWords⟩ := h4
  obtain ⟨_, _, cBody⟩ := h5
  obtain ⟨_, _, cRight⟩ := h6
  obtain ⟨_, _, cGreat⟩ := h7
  obtain ⟨_, _, cSteps⟩ := h8
  obtain ⟨_, _, cStep_count⟩ := h9
  obtain ⟨_, _, cRead_count⟩ := h10
  obtain ⟨_, _, cWrite_count⟩ := h11
  obtain ⟨_, _, cSize⟩ := h12
  obtain ⟨_, _, cDepth⟩ := h13
  obtain ⟨_, _, cWalked⟩ := h14
  refine Has.by F scLaw (fun vs H Q E h => ?_) (fun f cdv A out s H vs Q E hg hr h => ?_)
  · obtain ⟨a, ns, rfl, _⟩ := h
    rfl
  obtain ⟨a, ns, rfl, hS, hl, q⟩ := h
  refine ⟨_, (pss_cons (ps_for PassesOwn.never rfl (pi_range1 (by rfl) M.range_ (pa_cons (pe_callB (call_max2 rfl) (by rfl) M.max_ (by decide +kernel) (pa_cons pe_int (pa_cons (pe_callB (call_min2 rfl) (by rfl) M.min_ (by decide +kernel) (pa_cons pe_int (pa_cons (pe_callB call_len_seq (by rfl) M.len_ (by decide +kernel) (pa_cons (pv 0) pa_nil)) pa_nil))) pa_nil))) pa_nil)) (pg_name (i := 1) scLaw.nd rfl (.inl rfl))
    (pss_cons (ps_set (i := 2) scLaw.nd rfl (.inl rfl) (pe_cal cUrn hg hr (by rfl) (pa_cons (pv 0) (pa_cons (pv 1) pa_nil))))
  (pss_cons (ps_par (i := 3) (j := 4) (by rfl) scLaw.nd rfl rfl (by decide) rfl rfl (pa_cons (pe_cal cPrime hg hr (by rfl) (pa_cons (pv 2) pa_nil)) (pa_cons (pe_op op_add pe_int (pe_cal cTake hg hr (by rfl) (pa_cons (pv 2) (pa_cons pe_int pa_nil)))) pa_nil)) (by rfl))
  (pss_one (ps_for PassesOwn.never rfl (pi_range1 (by rfl) M.range_ (pa_cons pe_int pa_nil)) (pg_name (i := 5) scLaw.nd rfl (.inl rfl))
    (pss_cons (ps_set (i := 6) scLaw.nd rfl (.inl rfl) (pe_cal cBody hg hr (by rfl) (pa_cons (pv 2) (pa_cons (pv 3) (pa_cons (pv 4) (pa_cons (pe_cal0 cWords hg hr (by rfl)) (pa_cons pe_int (pa_cons pe_int (pa_cons (pe_lst (pa_cons pe_int (pa_cons pe_int (pa_cons pe_int (pa_cons pe_int pa_nil))))) pa_nil)))))))))
  (pss_cons (ps_if (pt_not (pt_val (pe_cal cRight hg hr (by rfl) (pa_cons (pv 6) pa_nil))))
    (pss_one (ps_ret pe_bl))
    pss_nil)
  (pss_cons (ps_set (i := 7) scLaw.nd rfl (.inl rfl) (pe_cal cGreat hg hr (by rfl) (pa_cons (pv 2) (pa_cons (pv 6) pa_nil))))
  (pss_cons (ps_if (PW.pt (pw_or (pt_cmpR op_ne (pe_callB (call_reprD hg hr) (by rfl) M.repr_ (by decide +kernel) (pa_cons (pe_cal cStep_count hg hr (by rfl) (pa_cons (pv 7) pa_nil)) pa_nil)) (pe_callB (call_reprD hg hr) (by rfl) M.repr_ (by decide +kernel) (pa_cons (pe_cal cSteps hg hr (by rfl) (pa_cons (pv 7) pa_nil)) pa_nil)) (nomark _)) (pw_or1 (pt_cmpR op_ne (pe_cal cRead_count hg hr (by rfl) (pa_cons (pv 7) pa_nil)) (pe_cal cRead_count hg hr (by rfl) (pa_cons (pv 6) pa_nil)) (nomark _)))))
    (pss_one (ps_ret pe_bl))
    pss_nil)
  (pss_cons (ps_if (pt_cmpR (op_neD hr.units) (pe_lst (pa_cons (pe_cal cSize hg hr (by rfl) (pa_cons (pv 7) pa_nil)) (pa_cons (pe_cal cDepth hg hr (by rfl) (pa_cons (pv 7) pa_nil)) pa_nil))) (pe_lst (pa_cons (pe_cal cSize hg hr (by rfl) (pa_cons (pv 6) pa_nil)) (pa_cons (pe_cal cDepth hg hr (by rfl) (pa_cons (pv 6) pa_nil)) pa_nil))) (nomark _))
    (pss_one (ps_ret pe_bl))
    pss_nil)
  (pss_cons (ps_set (i := 8) scLaw.nd rfl (.inl rfl) (pe_callB (call_max2 rfl) (by rfl) M.max_ (by decide +kernel) (pa_cons (pe_cal cRead_count hg hr (by rfl) (pa_cons (pv 6) pa_nil)) (pa_cons (pe_cal cWrite_count hg hr (by rfl) (pa_cons (pv 6) pa_nil)) pa_nil))))
  (Evl.pss_cut (ps_set (i := 9) scLaw.nd rfl (.inl rfl) (pe_cal cTake hg hr (by rfl) (pa_cons (pv 2) (pa_cons (pe_ifExp (pt_cmpR op_eq (pv 8) pe_int (nomark _)) (pe_op op_pow pe_int pe_int) (pe_op op_add pe_int (pe_op op_fdiv pe_int (pv 8)))) pa_nil))))
  (pss_cons (ps_set (i := 10) scLaw.nd rfl (.inl rfl) (pe_tup (pa_cons (pe_tup (pa_cons pe_str (pa_cons (pv 9) (pa_cons (pv 7) pa_nil)))) pa_nil)))
  (Evl.pss_cut (ps_if (PW.pt (pw_and (pt_cmpR op_lt (pe_ix ix_tup (pe_cal cWalked hg hr (by rfl) (pa_cons (pv 7) pa_nil)) pe_int (fun _ _ => rfl)) pe_int (nomark _)) (pw_and1 (pt_cmpR op_ne (pe_cal cStep_count hg hr (by rfl) (pa_cons (pv 10) pa_nil)) (pe_op op_mul (pv 9) (pe_cal cStep_count hg hr (by rfl) (pa_cons (pv 7) pa_nil))) (nomark _)))))
    (pss_one (ps_ret pe_bl))
    pss_nil)
  (pss_one (ps_if (PW.pt (pw_and (pt_cmpR op_lt (pe_ix ix_tup (pe_cal cWalked hg hr (by rfl) (pa_cons (pv 7) pa_nil)) pe_int (fun _ _ => rfl)) pe_int (nomark _)) (pw_and1 (pt_cmpR op_ne (pe_cal cRead_count hg hr (by rfl) (pa_cons (pv 10) pa_nil)) (pe_op op_mul (pv 9) (pe_cal cRead_count hg hr (by rfl) (pa_cons (pv 6) pa_nil))) (nomark _)))))
    (pss_one (ps_ret pe_bl))
    pss_nil))))))))))))))))
  (pss_one (ps_ret (pe_and (pe_cmpR op_eq (pe_cal cStep_count hg hr (by rfl) (pa_cons (pe_tup pa_nil) pa_nil)) pe_int (nomark _)) (pe_and (pe_cmpR op_eq (pe_cal cSize hg hr (by rfl) (pa_cons (pe_tup pa_nil) pa_nil)) pe_int (nomark _)) (pe_and (pe_cmpR op_eq (pe_cal cDepth hg hr (by rfl) (pa_cons (pe_tup pa_nil) pa_nil)) pe_int (nomark _)) (pe_one (pe_cmpR op_eq (pe_cal cDepth hg hr (by rfl) (pa_cons (pe_tup (pa_cons (pe_tup (pa_cons pe_str (pa_cons pe_int (pa_cons (pe_tup pa_nil) pa_nil)))) pa_nil)) pa_nil)) pe_int (nomark _))))))))), ?_⟩
  have hlen : (ns.map V.int).length = ns.length := List.length_map _
  refine ⟨_, rfl, a, _, rfl, .inl hS, 3, _, rfl, 1, _, rfl, ?_⟩
  rw [hlen]
  obtain ⟨m, hm, hm3⟩ : ∃ m : Nat, (if (if (ns.length : Int) < 3 then (ns.length : Int) else 3) > 1 then (if (ns.length : Int) < 3 then (ns.length : Int) else 3) else 1) = (m : Int) ∧ m ≤ 3 := by
    refine ⟨(if (if (ns.length : Int) < 3 then (ns.length : Int) else 3) > 1 then (if (ns.length : Int) < 3 then (ns.length : Int) else 3) else 1).toNat, ?_, ?_⟩
    · split <;> split <;> omega
    · split <;> split <;> omega
  refine ⟨_, rfl, ?_, ?_, ?_⟩
  · rw [hm]; omega
  · rw [hm]; omega
  rw [hm]
  refine for_range (lo := 0) (n := m) (fun i σ H' => ∃ y1 y2 y3 y4 y5 y6 y7 y8 y9 y10, σ = [some (.ref a), y1, y2, y3, y4, y5, y6, y7, y8, y9, y10] ∧ Same H H') ⟨_, _, _, _, _, _, _, _, _, _, rfl, Same.refl _⟩ ?_ ?_
  · rintro i σ H1 hi ⟨y1, y2, y3, y4, y5, y6, y7, y8, y9, y10, rfl, sm⟩
    refine ⟨_, rfl, _, rfl, a, ns, _, rfl, sm.seq hS, by omega, by omega, fun H2 u s2 nu hU => ?_⟩
    have nHu : H u = none := sm.free nu
    have sA : Same H H2 := sm.trans s2
    -- p, n
    refine ⟨_, rfl, u, rfl, hU, fun p H3 hp u3 b3 => ?_⟩
    obtain ⟨p0, p1⟩ := prs_bd hp
    refine ⟨_, rfl, u, 8, rfl, u3, by decide, wide_big (by decide) (by decide), fun n0 H4 n00 n01 u4 b4 => ?_⟩
    refine ⟨1, n0, rfl, rfl, _, _, rfl, ?_⟩
    have sB : Same H H4 := same_but (same_but sA nHu b3) nHu b4
    refine ⟨4, rfl, by decide, by decide, ?_⟩
    refine for_range (lo := 0) (n := 4) (fun j σ H' => ∃ y5 y6 y7 y8 y9 y10, σ = [some (.ref a), some (.int (0 + (i : Nat))), some (.ref u), some (.int p), some (.int (1 + n0)), y5, y6, y7, y8, y9, y10] ∧ Same H H' ∧ Urn H' u) ⟨_, _, _, _, _, _, rfl, sB, u4⟩ ?_ ?_
    · rintro j σ H5 hj ⟨y5, y6, y7, y8, y9, y10, rfl, s5, u5⟩
      -- tree
      refine ⟨_, rfl, _, rfl, _, rfl, rfl, fun ws nws => ?_⟩
      have u6 := u5.same (same_new (o := .lst (W9.map V.str)) nws)
      refine ⟨(by show 4 ≤ sizeLine; decide), fun rs nrs => ?_⟩
      have u7 := u6.same (same_new (o := .lst (([0, 1, 2, 3] : List Int).map V.int)) nrs)
      have hws : (upd (upd H5 ws (.lst (W9.map V.str))) rs (.lst (([0, 1, 2, 3] : List Int).map V.int))) ws = some (.lst (W9.map V.str)) := same_new nrs _ _ upd_same
      refine ⟨u, ws, rs, p, 1 + n0, W9, [0, 1, 2, 3], 8, 4, rfl, u7, p0, p1, by omega, by omega, u5.ne nws, SqL.of hws, (by intro z; cases z), (by decide), W9_in, u6.ne nrs, SqL.of upd_same, (by intro z; cases z), (by decide), (by decide), (by decide), fun b v H8 bl mad hB u8 b8 => ?_⟩
      have s8 : Same H H8 := same_but ((s5.trans (same_new nws)).trans (same_new nrs)) nHu b8
      have hG : ∀ z as, (GoodOp p (1 + n0) z as ∧ (z ∈ W9 ∨ z = "set")) → z ∈ W7 := fun z as h => h.1.w7
      have hR : ∀ k : Int, k ∈ ([0, 1, 2, 3] : List Int) → 0 ≤ k ∧ k ≤ 3 := fun k h => by
        simp only [List.mem_cons, List.not_mem_nil, or_false] at h
        omega
      have wf4 := mades_wf hG (fun k h => ⟨(hR k h).1, by have := (hR k h).2; omega⟩) b 8 4 (by decide) mad
      have ok5 : okB 5 b := ⟨wf4, by omega⟩
      have fin := mades_fine hG hR b 8 4 most84 mad
      have big := mades_big hR bl most84 mad
      -- right
      refine ⟨_, rfl, v, b, rfl, hB, ok5, fin, big, fun H9 s9 => ?_⟩
      refine ⟨_, rfl, iteF ?_⟩
      have hB9 := hB.kt (Kt.same s9)
      -- great
      refine ⟨_, rfl, _, rfl, u, v, b, 8, 4, _, _, rfl, u8.same s9, hB9, ok5, bl, mad, hG, most84, fun g vg H10 hgr hBg u10 b10 => ?_⟩
      have hB10 := hB9.kt ((u8.same s9).kt b10)
      have s10 : Same H H10 := same_but (s8.trans s9) nHu b10
      obtain ⟨_, g2, g3, g4, _, g6, g7⟩ := grs_all b g hgr
      have okg5 : okB 5 g := okB_of_grs hgr ok5
      have okg : okB 6 g := ⟨wfs_up okg5.1, okg5.2⟩
      have ok6 : okB 6 b := ⟨wfs_up ok5.1, ok5.2⟩
      -- counts of steps, reads
      have lg := leaf_int (log_of (lens_log okg (by decide)) (by decide) (by decide))
      refine ⟨_, rfl, vg, g, rfl, hBg, okg, fun H11 s11 => ?_⟩
      refine ⟨_, _, rfl, .int _, lg.1, lg.2.1, by rw [lg.2.2.1]; decide, Nat.le_trans lg.2.2.2 (by decide), _, rfl, vg, g, rfl, hBg.kt (Kt.same s11), okg, fun H12 s12 => ?_⟩
      refine ⟨_, _, rfl, .int _, lg.1, lg.2.1, by rw [lg.2.2.1]; decide, Nat.le_trans lg.2.2.2 (by decide), rfl, _, rfl, ?_⟩
      rw [decide_eq_true rfl]
      refine iteF ?_
      have s112 := s11.trans s12
      refine ⟨_, rfl, vg, g, rfl, hBg.kt (Kt.same s112), okg, fun H13 s13 => ?_⟩
      refine ⟨_, rfl, v, b, rfl, hB10.kt (Kt.same (s112.trans s13)), ok6, fun H14 s14 => ?_⟩
      refine ⟨rfl, _, rfl, iteNS (by rw [g6.1]) ?_⟩
      have s114 := (s112.trans s13).trans s14
      -- sizes
      refine ⟨_, rfl, vg, g, rfl, hBg.kt (Kt.same s114), okg, fun H15 s15 => ?_⟩
      refine ⟨_, rfl, vg, g, rfl, hBg.kt (Kt.same (s114.trans s15)), okg, fun H16 s16 => ?_⟩
      refine ⟨(by show 2 ≤ sizeLine; decide), fun l17 nl17 => ?_⟩
      have s116 := ((s114.trans s15).trans s16)
      have s17 := same_new (o := .lst ([szs g, deps g].map V.int)) nl17
      refine ⟨_, rfl, v, b, rfl, hB10.kt (Kt.same (s116.trans s17)), ok6, fun H18 s18 => ?_⟩
      refine ⟨_, rfl, v, b, rfl, hB10.kt (Kt.same ((s116.trans s17).trans s18)), ok6, fun H19 s19 => ?_⟩
      refine ⟨(by show 2 ≤ sizeLine; decide), fun l20 nl20 => ?_⟩
      have s20 := same_new (o := .lst ([szs b, deps b].map V.int)) nl20
      have sz : szs g = szs b := by
        unfold szs
        rw [g2, g7.1]
      refine ⟨_, _, dp_int_list (ns := [szs g, deps g]) (SqL.of (s20 _ _ (s19 _ _ (s18 _ _ upd_same)))), dp_int_list (ns := [szs b, deps b]) (SqL.of upd_same), shaped_ints _, shaped_ints _, _, rfl, ?_⟩
      have er : PyData.eqv (.list ([szs b, deps b].map PyData.int)) (.list ([szs b, deps b].map PyData.int)) = true := SeqAt.eqv_refl _ (by rw [PyData.canLay0]; exact lay_ints _)
      rw [sz, g3, er]
      refine iteF ?_
      have s120 := (((s116.trans s17).trans s18).trans s19).trans s20
      -- some
      refine ⟨_, rfl, v, b, rfl, hB10.kt (Kt.same s120), ok6, fun H21 s21 => ?_⟩
      refine ⟨_, rfl, v, b, rfl, hB10.kt (Kt.same (s120.trans s21)), ok6, fun H22 s22 => ?_⟩
      refine ⟨_, _, rfl, ?_⟩
      obtain ⟨q0, q1⟩ := cnts_bd "read" b 4 wf4
      obtain ⟨q2, q3⟩ := cnts_bd "write" b 4 wf4
      have q4 := exs_len b 4 wf4
      have s122 := (s120.trans s21).trans s22
      have m0 : 0 ≤ (if cnts "write" b > cnts "read" b then cnts "write" b else cnts "read" b) := by split <;> omega
      have m1 : (if cnts "write" b > cnts "read" b then cnts "write" b else cnts "read" b) ≤ 100000 := by split <;> omega
      generalize (if cnts "write" b > cnts "read" b then cnts "write" b else cnts "read" b) = some1 at m0 m1
      -- many
      refine ⟨fun σ H' => ∃ mn : Int, σ = [some (.ref a), some (.int (0 + (i : Nat))), some (.ref u), some (.int p), some (.int (1 + n0)), some (.int (0 + (j : Nat))), some v, some vg, some (.int some1), some (.int mn), y10] ∧ 0 ≤ mn ∧ mn ≤ 10 ^ 18 ∧ Urn H' u ∧ But u H22 H', ?_, ?_⟩
      · refine ⟨_, rfl, _, rfl, rfl, _, rfl, ite2 (fun c => ?_) (fun c => ?_)⟩
        · refine ⟨10, 18, rfl, rfl, ⟨by decide, by decide, by decide⟩, u, _, rfl, u10.same s122, by decide, wide_big (by decide) (by decide), fun z H7 z0 z1 u7 b7 => ?_⟩
          have z1 : z < 10 ^ 18 := z1
          exact ⟨z, rfl, z0, by omega, u7, b7⟩
        · have c' : some1 ≠ 0 := fun e => c (decide_eq_true (congrArg V.int e))
          have d0 : 0 ≤ 2000 / some1 := Int.ediv_nonneg (by decide) m0
          have d1 : 2000 / some1 ≤ 2000 := Int.ediv_le_self _ (by decide)
          refine ⟨_, rfl, 2000, some1, rfl, rfl, ⟨by omega, by omega⟩, 1, _, rfl, rfl, u, _, rfl, u10.same s122, by omega, wide_big (by omega) (by omega), fun z H7 z0 z1 u7 b7 => ?_⟩
          exact ⟨z, rfl, z0, by omega, u7, b7⟩
      rintro σ' H23 ⟨mn, rfl, mn0, mn1, u23, b23⟩
      have kt23 : Kt H10 H23 := (Kt.same s122).trans ((u10.same s122).kt b23)
      -- around
      obtain ⟨cg, vsg, rfl, sqg, trg⟩ := hBg
      refine ⟨_, rfl, _, rfl, (by show 3 ≤ sizeLine; decide), fun t1 nt1 => ⟨(by show 1 ≤ sizeLine; decide), fun t2 nt2 => ?_⟩⟩
      have s24 := (same_new (o := .tup [.str "loop", .int mn, .ref cg]) nt1).trans (same_new (o := .tup [.ref t1]) nt2)
      have hBg24 : BodyAt K _ g (.ref cg) := ⟨cg, vsg, rfl, (kt23.trans (Kt.same s24)).sq sqg, TrsAt.kt (kt23.trans (Kt.same s24)) _ _ trg⟩
      have hB24 := hB10.kt (kt23.trans (Kt.same s24))
      have hBa : BodyAt K (upd (upd H23 t1 (.tup [.str "loop", .int mn, .ref cg])) t2 (.tup [.ref t1])) [.loop mn g] (.ref t2) :=
        ⟨t2, _, rfl, SqT.of upd_same, TrsAt.one (by rw [TrAt]; exact ⟨t1, cg, vsg, rfl, (Kt.same (same_new nt2)).sq (SqT.of upd_same), (kt23.trans (Kt.same s24)).sq sqg, TrsAt.kt (kt23.trans (Kt.same s24)) _ _ trg⟩)⟩
      have oka : okB 6 [.loop mn g] := ⟨by rw [wfs, wfs, Tr.wf]; exact ⟨⟨mn0, mn1, okg5.2, okg5.1⟩, trivial⟩, by show 1 ≤ 1000; decide⟩
      have la : lens [.loop mn g] = mn * lens g := by rw [lens, lens, Tr.len, Int.add_zero]
      have ra : cnts "read" [.loop mn g] = mn * cnts "read" b := by rw [cnts, cnts, Tr.cnt, Int.add_zero, g6.1]
      -- step counts around
      refine ⟨fun σ H' => σ = [some (.ref a), some (.int (0 + (i : Nat))), some (.ref u), some (.int p), some (.int (1 + n0)), some (.int (0 + (j : Nat))), some v, some (.ref cg), some (.int some1), some (.int mn), some (.ref t2)] ∧ Same (upd (upd H23 t1 (.tup [.str "loop", .int mn, .ref cg])) t2 (.tup [.ref t1])) H', ?_, ?_⟩
      · refine ⟨_, rfl, _, g, rfl, hBg24, okg, fun p9 H25 s25 hp9 => ?_⟩
        refine ⟨p9, _, 1, .int (deps g), rfl, rfl, SqT.of hp9, rfl, _, _, rfl, rfl, _, rfl, ite2 (fun c => ?_) (fun c => ?_)⟩
        · refine ⟨_, rfl, _, _, rfl, hBa.kt (Kt.same s25), oka, fun H26 s26 => ?_⟩
          refine ⟨_, rfl, _, rfl, _, g, rfl, hBg24.kt (Kt.same (s25.trans s26)), okg, fun H27 s27 => ?_⟩
          refine ⟨mn, _, rfl, rfl, .inl ⟨by omega, by omega⟩, rfl, _, rfl, iteNS (by rw [la]) ?_⟩
          exact ⟨rfl, (s25.trans s26).trans s27⟩
        · exact iteF ⟨rfl, s25⟩
      rintro σ' H28 ⟨rfl, s28⟩
      have fin1 : ∀ H', Same (upd (upd H23 t1 (.tup [.str "loop", .int mn, .ref cg])) t2 (.tup [.ref t1])) H' → Same H H' ∧ Urn H' u := fun H' s' =>
        ⟨((same_but (s10.trans s122) nHu b23).trans s24).trans s', (u23.same s24).same s'⟩
      refine ⟨_, rfl, _, g, rfl, hBg24.kt (Kt.same s28), okg, fun p9 H25 s25 hp9 => ?_⟩
      refine ⟨p9, _, 1, .int (deps g), rfl, rfl, SqT.of hp9, rfl, _, _, rfl, rfl, _, rfl, ite2 (fun c => ?_) (fun c => ?_)⟩
      · refine ⟨_, rfl, _, _, rfl, hBa.kt (Kt.same (s28.trans s25)), oka, fun H26 s26 => ?_⟩
        refine ⟨_, rfl, _, rfl, v, b, rfl, hB24.kt (Kt.same ((s28.trans s25).trans s26)), ok6, fun H27 s27 => ?_⟩
        refine ⟨mn, _, rfl, rfl, .inl ⟨by omega, by omega⟩, rfl, _, rfl, iteNS (by rw [ra]) ?_⟩
        exact ⟨_, _, _, _, _, _, rfl, fin1 _ (((s28.trans s25).trans s26).trans s27)⟩
      · exact iteF ⟨_, _, _, _, _, _, rfl, fin1 _ (s28.trans s25)⟩
    · rintro σ H5 ⟨y5, y6, y7, y8, y9, y10, rfl, s5, u5⟩
      exact ⟨_, _, _, _, _, _, _, _, _, _, rfl, s5⟩
  · rintro σ H1 ⟨y1, y2, y3, y4, y5, y6, y7, y8, y9, y10, rfl, sm⟩
    have okn : okB 6 [] := ⟨by rw [wfs]; trivial, by decide⟩
    refine ⟨Nat.zero_le _, fun t nt => ⟨_, [], rfl, ⟨t, [], rfl, SqT.of upd_same, TrsAt.nil⟩, okn, fun H2 s2 => ⟨rfl, _, rfl, iteP rfl ?_⟩⟩⟩
    refine ⟨Nat.zero_le _, fun t nt => ⟨_, [], rfl, ⟨t, [], rfl, SqT.of upd_same, TrsAt.nil⟩, okn, fun H3 s3 => ⟨rfl, _, rfl, iteP rfl ?_⟩⟩⟩
    refine ⟨Nat.zero_le _, fun t nt => ⟨_, [], rfl, ⟨t, [], rfl, SqT.of upd_same, TrsAt.nil⟩, okn, fun H4 s4 => ⟨rfl, _, rfl, iteP rfl ?_⟩⟩⟩
    refine ⟨Nat.zero_le _, fun t1 nt1 => ⟨(by show 3 ≤ sizeLine; decide), fun t2 nt2 => ⟨(by show 1 ≤ sizeLine; decide), fun t3 nt3 => ?_⟩⟩⟩
    refine ⟨_, [.loop 0 []], rfl, ⟨t3, _, rfl, SqT.of upd_same, TrsAt.one (by rw [TrAt]; exact ⟨t2, t1, [], rfl, (Kt.same (same_new nt3)).sq (SqT.of upd_same), (Kt.same ((same_new nt2).trans (same_new nt3))).sq (SqT.of upd_same), TrsAt.nil⟩)⟩, ⟨by rw [wfs, wfs, Tr.wf, wfs]; exact ⟨⟨by decide, by decide, by decide, trivial⟩, trivial⟩, by show 1 ≤ 1000; decide⟩, fun H5 s5 => ⟨rfl, ?_⟩⟩
    have e : deps [.loop 0 []] = 1 := by
      rw [deps, Tr.dep, deps]
      rfl
    rw [e]
    exact q H5
end
end K06
set_option Elab.async false
set_option linter.all false
set_option maxRecDepth 100000
namespace K06
open PySem PySem.Spec PyProof.Rows L2 Lj
theorem all_mk {l : PySem.W.OpenLaw} {w : World} {K : PySem.W.Frag} {h : Heap} {mg : Str → Option Value} {fa f0 f1 f2 f3 f4 f5 f6 f7 f8 f9 f10 f11 f12 f13 f14 f15 f16 f17 f18 f19 f20 : Addr} (X : K.In h) (G : h.Ns mainGlobals mg) (hfa : mg "law" = some (.ref fa))
    {od0 an0 od1 an1 od2 an2 od3 an3 od4 an4 od5 an5 od6 an6 od7 an7 od8 an8 od9 an9 od10 an10 od11 an11 od12 an12 od13 an13 od14 an14 od15 an15 od16 an16 od17 an17 od18 an18 od19 an19 od20 an20 : Option Addr} {sl0 sl1 sl2 sl3 sl4 sl5 sl6 sl7 sl8 sl9 sl10 sl11 sl12 sl13 sl14 sl15 sl16 sl17 sl18 sl19 sl20 : Array (Option Value)} {oc0 kV0 dc0 pm0 cd0 ct0 oc1 kV1 dc1 pm1 cd1 ct1 oc2 kV2 dc2 pm2 cd2 ct2 oc3 kV3 dc3 pm3 cd3 ct3 oc4 kV4 dc4 pm4 cd4 ct4 oc5 kV5 dc5 pm5 cd5 ct5 oc6 kV6 dc6 pm6 cd6 ct6 oc7 kV7 dc7 pm7 cd7 ct7 oc8 kV8 dc8 pm8 cd8 ct8 oc9 kV9 dc9 pm9 cd9 ct9 oc10 kV10 dc10 pm10 cd10 ct10 oc11 kV11 dc11 pm11 cd11 ct11 oc12 kV12 dc12 pm12 cd12 ct12 oc13 kV13 dc13 pm13 cd13 ct13 oc14 kV14 dc14 pm14 cd14 ct14 oc15 kV15 dc15 pm15 cd15 ct15 oc16 kV16 dc16 pm16 cd16 ct16 oc17 kV17 dc17 pm17 cd17 ct17 oc18 kV18 dc18 pm18 cd18 ct18 oc19 kV19 dc19 pm19 cd19 ct19 oc20 kV20 dc20 pm20 cd20 ct20 : Value}
    (a0 : PySem.W.nsIn K mainGlobals "size" = some (some (.ref f0))) (l0 : K.lookup f0 = some ⟨oc0, od0, .func (PySem.W.fnOf "size" "size" (defArgs sSize) (defBody sSize) (defScope sSize) .none kV0 dc0 pm0 an0 cd0 ct0), sl0⟩) (c0 : PySem.W.codeIn K cd0 "size" = true) (k0 : PySem.W.keepIn K (.ref f0) = true)
    (a1 : PySem.W.nsIn K mainGlobals "depth" = some (some (.ref f1))) (l1 : K.lookup f1 = some ⟨oc1, od1, .func (PySem.W.fnOf "depth" "depth" (defArgs sDepth) (defBody sDepth) (defScope sDepth) .none kV1 dc1 pm1 an1 cd1 ct1), sl1⟩) (c1 : PySem.W.codeIn K cd1 "depth" = true) (k1 : PySem.W.keepIn K (.ref f1) = true)
    (a2 : PySem.W.nsIn K mainGlobals "step_count" = some (some (.ref f2))) (l2 : K.lookup f2 = some ⟨oc2, od2, .func (PySem.W.fnOf "step_count" "step_count" (defArgs sStep_count) (defBody sStep_count) (defScope sStep_count) .none kV2 dc2 pm2 an2 cd2 ct2), sl2⟩) (c2 : PySem.W.codeIn K cd2 "step_count" = true) (k2 : PySem.W.keepIn K (.ref f2) = true)
    (a3 : PySem.W.nsIn K mainGlobals "length" = some (some (.ref f3))) (l3 : K.lookup f3 = some ⟨oc3, od3, .func (PySem.W.fnOf "length" "length" (defArgs sLength) (defBody sLength) (defScope sLength) .none kV3 dc3 pm3 an3 cd3 ct3), sl3⟩) (c3 : PySem.W.codeIn K cd3 "length" = true) (k3 : PySem.W.keepIn K (.ref f3) = true)
    (a4 : PySem.W.nsIn K mainGlobals "read_count" = some (some (.ref f4))) (l4 : K.lookup f4 = some ⟨oc4, od4, .func (PySem.W.fnOf "read_count" "read_count" (defArgs sRead_count) (defBody sRead_count) (defScope sRead_count) .none kV4 dc4 pm4 an4 cd4 ct4), sl4⟩) (c4 : PySem.W.codeIn K cd4 "read_count" = true) (k4 : PySem.W.keepIn K (.ref f4) = true)
    (a5 : PySem.W.nsIn K mainGlobals "write_count" = some (some (.ref f5))) (l5 : K.lookup f5 = some ⟨oc5, od5, .func (PySem.W.fnOf "write_count" "write_count" (defArgs sWrite_count) (defBody sWrite_count) (defScope sWrite_count) .none kV5 dc5 pm5 an5 cd5 ct5), sl5⟩) (c5 : PySem.W.codeIn K cd5 "write_count" = true) (k5 : PySem.W.keepIn K (.ref f5) = true)
    (a6 : PySem.W.nsIn K mainGlobals "word_count" = some (some (.ref f6))) (l6 : K.lookup f6 = some ⟨oc6, od6, .func (PySem.W.fnOf "word_count" "word_count" (defArgs sWord_count) (defBody sWord_count) (defScope sWord_count) .none kV6 dc6 pm6 an6 cd6 ct6), sl6⟩) (c6 : PySem.W.codeIn K cd6 "word_count" = true) (k6 : PySem.W.keepIn K (.ref f6) = true)
    (a7 : PySem.W.nsIn K mainGlobals "_law_urn" = some (some (.ref f7))) (l7 : K.lookup f7 = some ⟨oc7, od7, .func (PySem.W.fnOf "_law_urn" "_law_urn" (defArgs sUrn) (defBody sUrn) (defScope sUrn) .none kV7 dc7 pm7 an7 cd7 ct7), sl7⟩) (c7 : PySem.W.codeIn K cd7 "_law_urn" = true) (k7 : PySem.W.keepIn K (.ref f7) = true)
    (a8 : PySem.W.nsIn K mainGlobals "_law_take" = some (some (.ref f8))) (l8 : K.lookup f8 = some ⟨oc8, od8, .func (PySem.W.fnOf "_law_take" "_law_take" (defArgs sTake) (defBody sTake) (defScope sTake) .none kV8 dc8 pm8 an8 cd8 ct8), sl8⟩) (c8 : PySem.W.codeIn K cd8 "_law_take" = true) (k8 : PySem.W.keepIn K (.ref f8) = true)
    (a9 : PySem.W.nsIn K mainGlobals "_law_of" = some (some (.ref f9))) (l9 : K.lookup f9 = some ⟨oc9, od9, .func (PySem.W.fnOf "_law_of" "_law_of" (defArgs sOf) (defBody sOf) (defScope sOf) .none kV9 dc9 pm9 an9 cd9 ct9), sl9⟩) (c9 : PySem.W.codeIn K cd9 "_law_of" = true) (k9 : PySem.W.keepIn K (.ref f9) = true)
    (a10 : PySem.W.nsIn K mainGlobals "_law_prime" = some (some (.ref f10))) (l10 : K.lookup f10 = some ⟨oc10, od10, .func (PySem.W.fnOf "_law_prime" "_law_prime" (defArgs sPrime) (defBody sPrime) (defScope sPrime) .none kV10 dc10 pm10 an10 cd10 ct10), sl10⟩) (c10 : PySem.W.codeIn K cd10 "_law_prime" = true) (k10 : PySem.W.keepIn K (.ref f10) = true)
    (a11 : PySem.W.nsIn K mainGlobals "_law_item" = some (some (.ref f11))) (l11 : K.lookup f11 = some ⟨oc11, od11, .func (PySem.W.fnOf "_law_item" "_law_item" (defArgs sItem) (defBody sItem) (defScope sItem) .none kV11 dc11 pm11 an11 cd11 ct11), sl11⟩) (c11 : PySem.W.codeIn K cd11 "_law_item" = true) (k11 : PySem.W.keepIn K (.ref f11) = true)
    (a12 : PySem.W.nsIn K mainGlobals "_law_body" = some (some (.ref f12))) (l12 : K.lookup f12 = some ⟨oc12, od12, .func (PySem.W.fnOf "_law_body" "_law_body" (defArgs sBody) (defBody sBody) (defScope sBody) .none kV12 dc12 pm12 an12 cd12 ct12), sl12⟩) (c12 : PySem.W.codeIn K cd12 "_law_body" = true) (k12 : PySem.W.keepIn K (.ref f12) = true)
    (a13 : PySem.W.nsIn K mainGlobals "_law_words" = some (some (.ref f13))) (l13 : K.lookup f13 = some ⟨oc13, od13, .func (PySem.W.fnOf "_law_words" "_law_words" (defArgs sWords) (defBody sWords) (defScope sWords) .none kV13 dc13 pm13 an13 cd13 ct13), sl13⟩) (c13 : PySem.W.codeIn K cd13 "_law_words" = true) (k13 : PySem.W.keepIn K (.ref f13) = true)
    (a14 : PySem.W.nsIn K mainGlobals "_law_steps" = some (some (.ref f14))) (l14 : K.lookup f14 = some ⟨oc14, od14, .func (PySem.W.fnOf "_law_steps" "_law_steps" (defArgs sSteps) (defBody sSteps) (defScope sSteps) .none kV14 dc14 pm14 an14 cd14 ct14), sl14⟩) (c14 : PySem.W.codeIn K cd14 "_law_steps" = true) (k14 : PySem.W.keepIn K (.ref f14) = true)
    (a15 : PySem.W.nsIn K mainGlobals "_law_executed" = some (some (.ref f15))) (l15 : K.lookup f15 = some ⟨oc15, od15, .func (PySem.W.fnOf "_law_executed" "_law_executed" (defArgs sExecuted) (defBody sExecuted) (defScope sExecuted) .none kV15 dc15 pm15 an15 cd15 ct15), sl15⟩) (c15 : PySem.W.codeIn K cd15 "_law_executed" = true) (k15 : PySem.W.keepIn K (.ref f15) = true)
    (a16 : PySem.W.nsIn K mainGlobals "_law_great" = some (some (.ref f16))) (l16 : K.lookup f16 = some ⟨oc16, od16, .func (PySem.W.fnOf "_law_great" "_law_great" (defArgs sGreat) (defBody sGreat) (defScope sGreat) .none kV16 dc16 pm16 an16 cd16 ct16), sl16⟩) (c16 : PySem.W.codeIn K cd16 "_law_great" = true) (k16 : PySem.W.keepIn K (.ref f16) = true)
    (a17 : PySem.W.nsIn K mainGlobals "_law_once" = some (some (.ref f17))) (l17 : K.lookup f17 = some ⟨oc17, od17, .func (PySem.W.fnOf "_law_once" "_law_once" (defArgs sOnce) (defBody sOnce) (defScope sOnce) .none kV17 dc17 pm17 an17 cd17 ct17), sl17⟩) (c17 : PySem.W.codeIn K cd17 "_law_once" = true) (k17 : PySem.W.keepIn K (.ref f17) = true)
    (a18 : PySem.W.nsIn K mainGlobals "_law_walked" = some (some (.ref f18))) (l18 : K.lookup f18 = some ⟨oc18, od18, .func (PySem.W.fnOf "_law_walked" "_law_walked" (defArgs sWalked) (defBody sWalked) (defScope sWalked) .none kV18 dc18 pm18 an18 cd18 ct18), sl18⟩) (c18 : PySem.W.codeIn K cd18 "_law_walked" = true) (k18 : PySem.W.keepIn K (.ref f18) = true)
    (a19 : PySem.W.nsIn K mainGlobals "_law_right" = some (some (.ref f19))) (l19 : K.lookup f19 = some ⟨oc19, od19, .func (PySem.W.fnOf "_law_right" "_law_right" (defArgs sRight) (defBody sRight) (defScope sRight) .none kV19 dc19 pm19 an19 cd19 ct19), sl19⟩) (c19 : PySem.W.codeIn K cd19 "_law_right" = true) (k19 : PySem.W.keepIn K (.ref f19) = true)
    (a20 : PySem.W.nsIn K mainGlobals "law" = some (some (.ref f20))) (l20 : K.lookup f20 = some ⟨oc20, od20, .func (PySem.W.fnOf "law" "law" (defArgs sLaw) (defBody sLaw) (defScope sLaw) .none kV20 dc20 pm20 an20 cd20 ct20), sl20⟩) (c20 : PySem.W.codeIn K cd20 "law" = true) (k20 : PySem.W.keepIn K (.ref f20) = true)
    (z0 : PySem.W.nsIn K mainGlobals "len" = some none)
    (z1 : PySem.W.nsIn K mainGlobals "abs" = some none)
    (z2 : PySem.W.nsIn K mainGlobals "int" = some none)
    (z3 : PySem.W.nsIn K mainGlobals "range" = some none)
    (z4 : PySem.W.nsIn K mainGlobals "max" = some none)
    (z5 : PySem.W.nsIn K mainGlobals "min" = some none)
    (z6 : PySem.W.nsIn K mainGlobals "all" = some none)
    (z7 : PySem.W.nsIn K mainGlobals "sum" = some none)
    (z8 : PySem.W.nsIn K mainGlobals "list" = some none)
    (z9 : PySem.W.nsIn K mainGlobals "tuple" = some none)
    (z10 : PySem.W.nsIn K mainGlobals "isinstance" = some none)
    (z11 : PySem.W.nsIn K mainGlobals "bool" = some none)
    (z12 : PySem.W.nsIn K mainGlobals "repr" = some none)
    (z13 : PySem.W.nsIn K mainGlobals "enumerate" = some none)
    (z14 : PySem.W.nsIn K mainGlobals "zip" = some none)
    (z15 : PySem.W.nsIn K mainGlobals "divmod" = some none)
    : ∃ fd : FuncData, (∀ (s : Shared) (v : Value), BindsTo s fd ⟨[v], []⟩ [("_law_script", v)]) ∧ ∀ base : Heap, K.In base → base.Ns mainGlobals mg → FnG l.prog w K mg base 22 fa fd ["_law_script"] (spLaw K) := by
  have FSize := fun_mk (st := sSize) l0 c0 k0
  have ASize : At K mg "size" sSize ["program"] := ⟨_, _, FSize, FSize.binds (ps := ["program"]) fun _ _ _ _ _ _ us hl => match us, hl with | [_], _ => rfl, PySem.W.mg_of X G a0⟩
  have FDepth := fun_mk (st := sDepth) l1 c1 k1
  have ADepth : At K mg "depth" sDepth ["program"] := ⟨_, _, FDepth, FDepth.binds (ps := ["program"]) fun _ _ _ _ _ _ us hl => match us, hl with | [_], _ => rfl, PySem.W.mg_of X G a1⟩
  have FStep_count := fun_mk (st := sStep_count) l2 c2 k2
  have AStep_count : At K mg "step_count" sStep_count ["program"] := ⟨_, _, FStep_count, FStep_count.binds (ps := ["program"]) fun _ _ _ _ _ _ us hl => match us, hl with | [_], _ => rfl, PySem.W.mg_of X G a2⟩
  have FLength := fun_mk (st := sLength) l3 c3 k3
  have ALength : At K mg "length" sLength ["instruction"] := ⟨_, _, FLength, FLength.binds (ps := ["instruction"]) fun _ _ _ _ _ _ us hl => match us, hl with | [_], _ => rfl, PySem.W.mg_of X G a3⟩
  have FRead_count := fun_mk (st := sRead_count) l4 c4 k4
  have ARead_count : At K mg "read_count" sRead_count ["program"] := ⟨_, _, FRead_count, FRead_count.binds (ps := ["program"]) fun _ _ _ _ _ _ us hl => match us, hl with | [_], _ => rfl, PySem.W.mg_of X G a4⟩
  have FWrite_count := fun_mk (st := sWrite_count) l5 c5 k5
  have AWrite_count : At K mg "write_count" sWrite_count ["program"] := ⟨_, _, FWrite_count, FWrite_count.binds (ps := ["program"]) fun _ _ _ _ _ _ us hl => match us, hl with | [_], _ => rfl, PySem.W.mg_of X G a5⟩
  have FWord_count := fun_mk (st := sWord_count) l6 c6 k6
  have AWord_count : At K mg "word_count" sWord_count ["program", "word"] := ⟨_, _, FWord_count, FWord_count.binds (ps := ["program", "word"]) fun _ _ _ _ _ _ us hl => match us, hl with | [_, _], _ => rfl, PySem.W.mg_of X G a6⟩
  have FUrn := fun_mk (st := sUrn) l7 c7 k7
  have AUrn : At K mg "_law_urn" sUrn ["_law_script", "_law_k"] := ⟨_, _, FUrn, FUrn.binds (ps := ["_law_script", "_law_k"]) fun _ _ _ _ _ _ us hl => match us, hl with | [_, _], _ => rfl, PySem.W.mg_of X G a7⟩
  have FTake := fun_mk (st := sTake) l8 c8 k8
  have ATake : At K mg "_law_take" sTake ["_law_urn_here", "_law_below"] := ⟨_, _, FTake, FTake.binds (ps := ["_law_urn_here", "_law_below"]) fun _ _ _ _ _ _ us hl => match us, hl with | [_, _], _ => rfl, PySem.W.mg_of X G a8⟩
  have FOf := fun_mk (st := sOf) l9 c9 k9
  have AOf : At K mg "_law_of" sOf ["_law_urn_here", "_law_items"] := ⟨_, _, FOf, FOf.binds (ps := ["_law_urn_here", "_law_items"]) fun _ _ _ _ _ _ us hl => match us, hl with | [_, _], _ => rfl, PySem.W.mg_of X G a9⟩
  have FPrime := fun_mk (st := sPrime) l10 c10 k10
  have APrime : At K mg "_law_prime" sPrime ["_law_urn_here"] := ⟨_, _, FPrime, FPrime.binds (ps := ["_law_urn_here"]) fun _ _ _ _ _ _ us hl => match us, hl with | [_], _ => rfl, PySem.W.mg_of X G a10⟩
  have FItem := fun_mk (st := sItem) l11 c11 k11
  have AItem : At K mg "_law_item" sItem ["_law_urn_here", "_law_p", "_law_n", "_law_words_here"] := ⟨_, _, FItem, FItem.binds (ps := ["_law_urn_here", "_law_p", "_law_n", "_law_words_here"]) fun _ _ _ _ _ _ us hl => match us, hl with | [_, _, _, _], _ => rfl, PySem.W.mg_of X G a11⟩
  have FBody := fun_mk (st := sBody) l12 c12 k12
  have ABody : At K mg "_law_body" sBody ["_law_urn_here", "_law_p", "_law_n", "_law_words_here", "_law_length", "_law_deep", "_law_rounds"] := ⟨_, _, FBody, FBody.binds (ps := ["_law_urn_here", "_law_p", "_law_n", "_law_words_here", "_law_length", "_law_deep", "_law_rounds"]) fun _ _ _ _ _ _ us hl => match us, hl with | [_, _, _, _, _, _, _], _ => rfl, PySem.W.mg_of X G a12⟩
  have FWords := fun_mk (st := sWords) l13 c13 k13
  have AWords : At K mg "_law_words" sWords [] := ⟨_, _, FWords, FWords.binds (ps := []) fun _ _ _ _ _ _ us hl => match us, hl with | [], _ => rfl, PySem.W.mg_of X G a13⟩
  have FSteps := fun_mk (st := sSteps) l14 c14 k14
  have ASteps : At K mg "_law_steps" sSteps ["_law_tree"] := ⟨_, _, FSteps, FSteps.binds (ps := ["_law_tree"]) fun _ _ _ _ _ _ us hl => match us, hl with | [_], _ => rfl, PySem.W.mg_of X G a14⟩
  have FExecuted := fun_mk (st := sExecuted) l15 c15 k15
  have AExecuted : At K mg "_law_executed" sExecuted ["_law_tree"] := ⟨_, _, FExecuted, FExecuted.binds (ps := ["_law_tree"]) fun _ _ _ _ _ _ us hl => match us, hl with | [_], _ => rfl, PySem.W.mg_of X G a15⟩
  have FGreat := fun_mk (st := sGreat) l16 c16 k16
  have AGreat : At K mg "_law_great" sGreat ["_law_urn_here", "_law_tree"] := ⟨_, _, FGreat, FGreat.binds (ps := ["_law_urn_here", "_law_tree"]) fun _ _ _ _ _ _ us hl => match us, hl with | [_, _], _ => rfl, PySem.W.mg_of X G a16⟩
  have FOnce := fun_mk (st := sOnce) l17 c17 k17
  have AOnce : At K mg "_law_once" sOnce ["_law_item_here"] := ⟨_, _, FOnce, FOnce.binds (ps := ["_law_item_here"]) fun _ _ _ _ _ _ us hl => match us, hl with | [_], _ => rfl, PySem.W.mg_of X G a17⟩
  have FWalked := fun_mk (st := sWalked) l18 c18 k18
  have AWalked : At K mg "_law_walked" sWalked ["_law_tree"] := ⟨_, _, FWalked, FWalked.binds (ps := ["_law_tree"]) fun _ _ _ _ _ _ us hl => match us, hl with | [_], _ => rfl, PySem.W.mg_of X G a18⟩
  have FRight := fun_mk (st := sRight) l19 c19 k19
  have ARight : At K mg "_law_right" sRight ["_law_tree"] := ⟨_, _, FRight, FRight.binds (ps := ["_law_tree"]) fun _ _ _ _ _ _ us hl => match us, hl with | [_], _ => rfl, PySem.W.mg_of X G a19⟩
  have FLaw := fun_mk (st := sLaw) l20 c20 k20
  have ALaw : At K mg "law" sLaw ["_law_script"] := ⟨_, _, FLaw, FLaw.binds (ps := ["_law_script"]) fun _ _ _ _ _ _ us hl => match us, hl with | [_], _ => rfl, PySem.W.mg_of X G a20⟩
  have M : Bl mg := ⟨PySem.W.mg_none_of X G z0, PySem.W.mg_none_of X G z1, PySem.W.mg_none_of X G z2, PySem.W.mg_none_of X G z3, PySem.W.mg_none_of X G z4, PySem.W.mg_none_of X G z5, PySem.W.mg_none_of X G z6, PySem.W.mg_none_of X G z7, PySem.W.mg_none_of X G z8, PySem.W.mg_none_of X G z9, PySem.W.mg_none_of X G z10, PySem.W.mg_none_of X G z11, PySem.W.mg_none_of X G z12, PySem.W.mg_none_of X G z13, PySem.W.mg_none_of X G z14, PySem.W.mg_none_of X G z15⟩
  refine ⟨PySem.W.fnOf "law" "law" (defArgs sLaw) (defBody sLaw) (defScope sLaw) .none kV20 dc20 pm20 an20 cd20 ct20, fun s v => .of_eq rfl, fun base _ _ => ?_⟩
  have hT : Has l.prog w K mg base 1 "_law_take" ["_law_urn_here", "_law_below"] spTake := has_take ATake
  have hO : Has l.prog w K mg base 2 "_law_of" ["_law_urn_here", "_law_items"] (spOf K) := has_of M AOf ATake
  have hI := ok_item M AItem hO (hT.up (by decide))
  have hW : ∀ n, Has l.prog w K mg base n "word_count" ["program", "word"] (spWI K (okB n)) := ok_word M AWord_count
  have hS : ∀ n, Has l.prog w K mg base (2 * n) "step_count" ["program"] (spTI K (okB n) lens) := ok_steps M ALength AStep_count
  have hR := ok_right (d := 4) (k := 20) M ARight (by decide) AStep_count ((ok_exec M AExecuted 5).up (by decide)) ((hS 5).up (by decide)) ((ok_read ARead_count (hW 5)).up (by decide)) ((ok_write AWrite_count (hW 5)).up (by decide)) ((ok_size M ASize 5).up (by decide)) ((ok_depth M ADepth 5).up (by decide)) ((ok_walked M AWalked 5).up (by decide))
  have hLaw := ok_law (P := l.prog) (w := w) (base := base) (k := 21) M ALaw ((has_urn M AUrn).up (by decide)) (hT.up (by decide)) ((ok_prime APrime hO).up (by decide)) ((ok_words AWords).up (by decide))
    ((ok_body M ABody (hO.up (k := 3) (by decide)) (hT.up (by decide)) hI 5).up (by decide)) hR ((ok_great M AGreat hO (hT.up (by decide)) (ok_exec M AExecuted) (ok_once M AOnce) 5).up (by decide))
    ((ok_lsteps M ASteps 6).up (by decide)) ((hS 6).up (by decide)) ((ok_read ARead_count (hW 6)).up (by decide)) ((ok_write AWrite_count (hW 6)).up (by decide)) ((ok_size M ASize 6).up (by decide)) ((ok_depth M ADepth 6).up (by decide)) ((ok_walked M AWalked 6).up (by decide))
  obtain ⟨f, fd, c⟩ := hLaw
  cases hfa.symm.trans c.g
  cases hfa.symm.trans (PySem.W.mg_of X G a20)
  obtain ⟨_, _, _, e⟩ := c.lk
  cases e.symm.trans l20
  exact c.ok
end K06
open PySem PySem.W PyProof.Rows
set_option maxRecDepth 100000 in
set_option maxHeartbeats 0 in
theorem PySem.Challenge.cw_leastjournal_k06_sizes_and_counts_holds : PySem.Challenge.rw_leastjournal_k06_sizes_and_counts.Holds := by
  w_on; o_law; k_head; (case hw => w_witness2)
  k_fill
  refine Lj.walk_G (l := PySem.Challenge.rw_leastjournal_k06_sizes_and_counts) (n := 63) (k := 22) (x := "_law_script") (sp := K06.spLaw) rfl (by decide) rfl ⟨rfl, by decide, by decide⟩ (fun w h Y => PySem.W.kIn_of Y) ?F (fun _ _ a ns hl _ hS => ⟨a, ns, rfl, hS, hl, fun _ => rfl⟩)
  case F =>
    intro w mg fa h KX G hmg
    refine' K06.all_mk KX G hmg ?a0 ?l0 ?c0 ?k0 ?a1 ?l1 ?c1 ?k1 ?a2 ?l2 ?c2 ?k2 ?a3 ?l3 ?c3 ?k3 ?a4 ?l4 ?c4 ?k4 ?a5 ?l5 ?c5 ?k5 ?a6 ?l6 ?c6 ?k6 ?a7 ?l7 ?c7 ?k7 ?a8 ?l8 ?c8 ?k8 ?a9 ?l9 ?c9 ?k9 ?a10 ?l10 ?c10 ?k10 ?a11 ?l11 ?c11 ?k11 ?a12 ?l12 ?c12 ?k12 ?a13 ?l13 ?c13 ?k13 ?a14 ?l14 ?c14 ?k14 ?a15 ?l15 ?c15 ?k15 ?a16 ?l16 ?c16 ?k16 ?a17 ?l17 ?c17 ?k17 ?a18 ?l18 ?c18 ?k18 ?a19 ?l19 ?c19 ?k19 ?a20 ?l20 ?c20 ?k20 ?z0 ?z1 ?z2 ?z3 ?z4 ?z5 ?z6 ?z7 ?z8 ?z9 ?z10 ?z11 ?z12 ?z13 ?z14 ?z15
    (case a0 => k_is); (case l0 => k_is); (case c0 => k_is); (case k0 => k_is); (case a1 => k_is); (case l1 => k_is); (case c1 => k_is); (case k1 => k_is); (case a2 => k_is); (case l2 => k_is); (case c2 => k_is); (case k2 => k_is); (case a3 => k_is); (case l3 => k_is); (case c3 => k_is); (case k3 => k_is); (case a4 => k_is); (case l4 => k_is); (case c4 => k_is); (case k4 => k_is); (case a5 => k_is); (case l5 => k_is); (case c5 => k_is); (case k5 => k_is); (case a6 => k_is); (case l6 => k_is); (case c6 => k_is); (case k6 => k_is); (case a7 => k_is); (case l7 => k_is); (case c7 => k_is); (case k7 => k_is); (case a8 => k_is); (case l8 => k_is); (case c8 => k_is); (case k8 => k_is); (case a9 => k_is); (case l9 => k_is); (case c9 => k_is); (case k9 => k_is); (case a10 => k_is); (case l10 => k_is); (case c10 => k_is); (case k10 => k_is); (case a11 => k_is); (case l11 => k_is); (case c11 => k_is); (case k11 => k_is); (case a12 => k_is); (case l12 => k_is); (case c12 => k_is); (case k12 => k_is); (case a13 => k_is); (case l13 => k_is); (case c13 => k_is); (case k13 => k_is); (case a14 => k_is); (case l14 => k_is); (case c14 => k_is); (case k14 => k_is); (case a15 => k_is); (case l15 => k_is); (case c15 => k_is); (case k15 => k_is); (case a16 => k_is); (case l16 => k_is); (case c16 => k_is); (case k16 => k_is); (case a17 => k_is); (case l17 => k_is); (case c17 => k_is); (case k17 => k_is); (case a18 => k_is); (case l18 => k_is); (case c18 => k_is); (case k18 => k_is); (case a19 => k_is); (case l19 => k_is); (case c19 => k_is); (case k19 => k_is); (case a20 => k_is); (case l20 => k_is); (case c20 => k_is); (case k20 => k_is); (case z0 => k_is); (case z1 => k_is); (case z2 => k_is); (case z3 => k_is); (case z4 => k_is); (case z5 => k_is); (case z6 => k_is); (case z7 => k_is); (case z8 => k_is); (case z9 => k_is); (case z10 => k_is); (case z11 => k_is); (case z12 => k_is); (case z13 => k_is); (case z14 => k_is); (case z15 => k_is)
