import PyProof.Rows.All
import Wide.All
import OpenK.AllK
import Wide.FinOn
import HandS.ForMost
import HandS.Wide
import HandS.IsInst
import HandS.Flow
import HandS.Evl
import PyProof.StrBlock2
import HandS.Zip
import HandS.Walk
import HandS.SortKw
import HandS.More
import HandS.WideBits
import HandS.TupMul
import HandS.TupAny
import HandS.Style
import HandS.Conv
import HandS.TupLe
import PySem.Challenge.RW_leastjournal_k05_programs_of_any_value
set_option Elab.async false
set_option linter.all false
set_option maxRecDepth 100000
namespace Lj
open PySem PySem.Spec PyProof.Rows L2
section
variable {X : Cx}
theorem op_mulS : OpR X (binaryOp .Mult) (fun x y H Q => ∃ z n, x = .str z ∧ y = .int n ∧ MulOk z n ∧ Q (.str (Txt.mul z n)) H) := by
  intro pins s σ H x y v u Q I rx ry h
  obtain ⟨z, n, rfl, rfl, ok, q⟩ := h
  obtain ⟨t, rfl⟩ := rx
  obtain ⟨t', rfl⟩ := ry
  exact SB.mul ok fun t2 k => ⟨.str _, H, I.tok _, ⟨_, rfl⟩, q⟩
end
section
variable {X : Cx} {CX : CXT} {k : Nat} {f : Addr} {fd : FuncData} {ps ks : List Str} {sp : Sp} {E : XK} {x : Str} {p pos : Pos} {kws : List Keyword} {tk : TA}
  {g : List Value → List Value → List Value} {gV : List V → List V → List V}
/-- f(k = v, ..), no positional arguments -/
theorem pe_callK0 (F : FnOk X.prog X.w X.K X.mg X.base CX k f fd ps sp) (hr : Room k X.A) (hg : Gl X x) (hm : X.mg x = some (.ref f)) (hk : PySem.W.keepIn X.K (.ref f) = true) (hb : KBinds X.K fd ps ks g gV) (hx : Passes CX X E)
    (hkw : PK X kws tk) (hall : (backToKw pos (keywordEach kws X.env)).all (·.1.isSome) = true := by rfl) (hks : (backToKw pos (keywordEach kws X.env)).filterMap (·.1) = ks := by rfl)
    (hdb : (x == ("__debug__" : Str)) = false := by decide)
    (hpl : ((backTo pos (starEach [] X.env)).any (·.1) || (backToKw pos (keywordEach kws X.env)).any (·.1.isNone)) = false := by rfl) :
    PE X (.Call (.Name x p) [] kws pos) (fun σ H Q => tk σ H fun zs H1 => sp (gV [] zs) H1 Q E) := by
  refine ⟨fun pins s σ H Q I h => ?_⟩
  refine wpAny_Call_Name_kw (ld_glob I hg hm ?_ hdb)
  refine PySem.W.callWith_KW0 (h₀ := X.base) I.ok.mod.kin hk hall (thn (hkw.run pos pins s σ H _ I h) fun ws s2 ⟨zs, H2, I2, rz, q2⟩ => ⟨I2.kIn, ?_⟩) hpl
  rw [hks]
  exact run_fnk (us := []) (vs := []) F hr hb hx I2 .nil rz q2
end
/-! ### heaps -/
theorem same_new {H : Hp} {p : Addr} {o : HO} (h : H p = none) : Same H (upd H p o) := fun b x e => by
  rw [upd_ne (ne_of_none e h)]
  exact e
/-- all but p stands as before -/
def But (p : Addr) (H H' : Hp) : Prop := ∀ b o, b ≠ p → H b = some o → H' b = some o
theorem But.refl (p : Addr) (H : Hp) : But p H H := fun _ _ _ h => h
theorem But.trans {p : Addr} {H H1 H2 : Hp} (a : But p H H1) (b : But p H1 H2) : But p H H2 := fun c o n h => b c o n (a c o n h)
theorem But.same {p : Addr} {H H' : Hp} (s : Same H H') : But p H H' := fun b o _ h => s b o h
theorem But.new {p q : Addr} {H : Hp} {o : HO} (h : H q = none) : But p H (upd H q o) := But.same (same_new h)
theorem But.upd {p : Addr} {H : Hp} {o : HO} : But p H (upd H p o) := fun b x n e => by
  rw [upd_ne n]
  exact e
theorem But.rd {p a : Addr} {H H' : Hp} {u : HO} (b : But p H H') (n : a ≠ p) (h : Rd H a u) : Rd H' a u := by
  rcases h with h | ⟨o, h⟩
  · exact .inl (b _ _ n h)
  · exact .inr ⟨o, b _ _ n h⟩
theorem But.seq {K : PySem.W.Frag} {p a : Addr} {H H' : Hp} {xs : List V} (b : But p H H') (n : a ≠ p) (h : SqL K H a xs) : SqL K H' a xs := by
  rcases h with h | h
  · exact .inl (b.rd n h)
  · exact .inr h
theorem But.tup {K : PySem.W.Frag} {p a : Addr} {H H' : Hp} {xs : List V} (b : But p H H') (n : a ≠ p) (h : SqT K H a xs) : SqT K H' a xs := by
  rcases h with h | h
  · exact .inl (b.rd n h)
  · exact .inr h
/-! ### the urn: two numbers in a list -/
def wide : Nat := 2 ^ 1000
def Urn (H : Hp) (p : Addr) : Prop := ∃ u v : Int, H p = some (.lst [.int u, .int v]) ∧ 0 ≤ u ∧ u.natAbs < wide ∧ 0 ≤ v ∧ v < 2305843009213693951
theorem Urn.but {p q : Addr} {H H' : Hp} (b : But q H H') (n : p ≠ q) (h : Urn H p) : Urn H' p := by
  obtain ⟨u, v, e, r⟩ := h
  exact ⟨u, v, b _ _ n e, r⟩
theorem Urn.same {p : Addr} {H H' : Hp} (b : Same H H') (h : Urn H p) : Urn H' p := by
  obtain ⟨u, v, e, r⟩ := h
  exact ⟨u, v, b _ _ e, r⟩
theorem Urn.ne {p q : Addr} {H : Hp} (h : Urn H p) (e : H q = none) : q ≠ p := by
  obtain ⟨u, v, e', _⟩ := h
  exact (ne_of_none e' e).symm
theorem Urn.free {p q : Addr} {H H' : Hp} (h : Urn H' p) (b : But p H H') (e : H' q = none) : H q = none := by
  have n := h.ne e
  cases z : H q with
  | none => rfl
  | some o => rw [b _ _ n z] at e; cases e
def spUrn (K : PySem.W.Frag) : Sp := fun vs H Q _ => ∃ (a : Addr) (ns : List Int) (k : Int), vs = [.ref a, .int k] ∧ SqL K H a (ns.map V.int) ∧ 0 ≤ k ∧ k ≤ 1000 ∧
  ∀ H' p, Same H H' → H p = none → Urn H' p → Q (.ref p) H'
def spTake : Sp := fun vs H Q _ => ∃ (p : Addr) (n : Int), vs = [.ref p, .int n] ∧ Urn H p ∧ 0 < n ∧ n.natAbs < wide ∧
  ∀ (d : Int) H', 0 ≤ d → d < n → Urn H' p → But p H H' → Q (.int d) H'
def spOf (K : PySem.W.Frag) : Sp := fun vs H Q _ => ∃ (p q : Addr) (xs : List V), vs = [.ref p, .ref q] ∧ Urn H p ∧ q ≠ p ∧ SqL K H q xs ∧ xs ≠ [] ∧ xs.length ≤ 1000 ∧
  ∀ x H', x ∈ xs → Urn H' p → But p H H' → Q x H'
def urnText : Str := "1" ++ Txt.mul "0" 300
theorem urnText_int : PySem.intText? urnText = some (10 ^ 300) := by decide +kernel
theorem urnText_len : urnText.length ≤ 640 := by decide +kernel
theorem mul_ok0 : MulOk "0" 300 := ⟨by decide, fun _ _ => by decide, fun _ _ => by decide⟩
theorem small {n : Nat} (h : n ≤ 1000) : n ≤ sizeLine := Nat.le_of_lt (small1000 h)
theorem own_lt (c : Int) (b : Bool) : 0 ≤ (if c < 0 then -c else c) % 10 ^ 300 * (if b then 1 else 0) ∧ ((if c < 0 then -c else c) % 10 ^ 300 * (if b then 1 else 0)).natAbs < wide := by
  have h1 : 0 ≤ (if c < 0 then -c else c) % (10 ^ 300 : Int) := Int.emod_nonneg _ (by decide)
  have h2 : (if c < 0 then -c else c) % (10 ^ 300 : Int) < 10 ^ 300 := Int.emod_lt_of_pos _ (by decide)
  generalize (if c < 0 then -c else c) % (10 ^ 300 : Int) = z at h1 h2
  have h3 : (10 ^ 300 : Int) < (wide : Int) := by decide +kernel
  have h4 : 0 < wide := by decide +kernel
  cases b with
  | true =>
    rw [if_pos rfl, Int.mul_one]
    exact ⟨h1, by omega⟩
  | false =>
    rw [if_neg Bool.false_ne_true, Int.mul_zero]
    exact ⟨Int.le_refl 0, h4⟩
theorem ind_bd (b : Bool) : -(2 ^ 64) < (if b then 1 else 0 : Int) ∧ (if b then 1 else 0 : Int) < 2 ^ 64 := by
  cases b
  · exact ⟨by decide, by decide⟩
  · exact ⟨by decide, by decide⟩
def nx (v : Int) : Int := (v * 1181783497276652981 + 12345678910987) % 2305843009213693951
theorem nx0 (v : Int) : 0 ≤ nx v := Int.emod_nonneg _ (by decide)
theorem nx1 (v : Int) : nx v < 2305843009213693951 := Int.emod_lt_of_pos _ (by decide)
def ny (v : Int) : Int := (v * 3202034522624059733 + 1) % 2305843009213693951
theorem ny0 (v : Int) : 0 ≤ ny v := Int.emod_nonneg _ (by decide)
theorem ny1 (v : Int) : ny v < 2305843009213693951 := Int.emod_lt_of_pos _ (by decide)
theorem at_int {ns : List Int} {k : Int} (h0 : 0 ≤ k) (h : k < (ns.length : Int)) : ∃ v : Int, v ∈ ns ∧ atI (ns.map V.int) k = some (.int v) := by
  have hk : k.toNat < ns.length := by omega
  have ek : k = ((k.toNat : Nat) : Int) := by omega
  have q : atI (ns.map V.int) ((k.toNat : Nat) : Int) = some (.int ns[k.toNat]) := atI_nat (by rw [List.getElem?_map, List.getElem?_eq_getElem hk] <;> rfl)
  rw [← ek] at q
  exact ⟨ns[k.toNat], List.getElem_mem hk, q⟩
theorem at_any {xs : List V} {k : Int} (h0 : 0 ≤ k) (h : k < (xs.length : Int)) : ∃ v : V, v ∈ xs ∧ atI xs k = some v := by
  have hk : k.toNat < xs.length := by omega
  have ek : k = ((k.toNat : Nat) : Int) := by omega
  have q : atI xs ((k.toNat : Nat) : Int) = some xs[k.toNat] := atI_nat (List.getElem?_eq_getElem hk)
  rw [← ek] at q
  exact ⟨xs[k.toNat], List.getElem_mem hk, q⟩
theorem iteP {c A B : Prop} [Decidable c] (h : c) (a : A) : if decide c = true then A else B := by
  rw [decide_eq_true h]
  exact a
theorem iteN {c A B : Prop} [Decidable c] (h : ¬ c) (b : B) : if decide c = true then A else B := by
  rw [decide_eq_false h]
  exact b
/-! ### rules with the written part named: for the blocks of comprehensions -/
section
variable {X : Cx} {K : PySem.W.Frag}
theorem ix_tupK (h : X.K = K) : IxR X (rIxT K) := h ▸ ix_tup
theorem ix_listK (h : X.K = K) : IxR X (rIxL K) := h ▸ ix_list
def rLenS (K : PySem.W.Frag) : List V → Hp → VK → Prop := fun xs H Q => ∃ p ys, xs = [.ref p] ∧ (SqL K H p ys ∨ SqT K H p ys) ∧ Q (.int ys.length) H
theorem call_len_seqK (h : X.K = K) : CallR X (.builtin "len") (rLenS K) := h ▸ call_len_seq
end
end Lj
set_option Elab.async false
set_option linter.all false
set_option maxRecDepth 100000
namespace Lj
open PySem PySem.Spec PyProof.Rows L2
/-! ### promises of defs that are called where no repr is under way -/
/-- the def at f keeps sp wherever nothing is being shown -/
structure FnG (P : Program) (w : World) (K : PySem.W.Frag) (mg : Str → Option Value) (base : Heap) (k : Nat) (f : Addr) (fd : FuncData) (ps : List Str) (sp : Sp) : Prop where
  len : ∀ vs H Q E, sp vs H Q E → vs.length = ps.length
  run : ∀ (A : Around) (out : List Env) (s : Shared) (H : Hp) (as : Args) (us : List Value) (vs : List V) (Q : VK) (E : XK), A.guards = some [] → Room k A → Env0 P w K mg base A out s H →
    BindsTo s fd as (ps.zip us) → Vals vs us → sp vs H Q E → codeAny (model P w) A (.call (.ref f) as) (CR CX0 out P w H s Q E) s
section
variable {P : Program} {w : World} {K : PySem.W.Frag} {mg : Str → Option Value} {base : Heap} {j k : Nat} {f : Addr} {fd : FuncData} {ps : List Str} {sp sp' : Sp}
theorem FnG.of (F : FnOk P w K mg base CX0 k f fd ps sp) : FnG P w K mg base k f fd ps sp := ⟨F.len, fun A out s H as us vs Q E _ => F.run A out s H as us vs Q E⟩
theorem FnG.up (F : FnG P w K mg base j f fd ps sp) (h : j ≤ k) : FnG P w K mg base k f fd ps sp := ⟨F.len, fun A out s H as us vs Q E g r => F.run A out s H as us vs Q E g (r.mono h)⟩
theorem FnG.weak (F : FnG P w K mg base k f fd ps sp) (h : ∀ vs H Q E, sp' vs H Q E → sp vs H Q E) : FnG P w K mg base k f fd ps sp' :=
  ⟨fun vs H Q E q => F.len vs H Q E (h _ _ _ _ q), fun A out s H as us vs Q E g r e b v q => F.run A out s H as us vs Q E g r e b v (h _ _ _ _ q)⟩
/-- by the def's body, where nothing is being shown -/
theorem FnG.body {x qual : Str} {st : Stmt} {N : List Str} (F : Fun K x qual st f fd) (S : FnScope N ps (defScope st)) (len : ∀ vs H Q E, sp vs H Q E → vs.length = ps.length)
    (hb : ∀ (cdv : Value) (A : Around) (out : List Env) (s : Shared) (H : Hp) (vs : List V) (Q : VK) (E : XK), A.guards = some [] → Room k (A.deeper (envOfC qual (defScope st) s.heap.objs.size f cdv)) → sp vs H Q E →
      ∃ t, PSs (cxOf CX0 P w K mg base N qual (defScope st) f cdv A out s H E).nox (defBody st) t ∧ t { nx := fun _ H' => Q .non H', rt := Q } (start N vs) H) : FnG P w K mg base (k + 1) f fd ps sp := by
  obtain ⟨c0, c1, c2, c3, c4, c5, cd, c6, c7, rfl, look, code⟩ := F.ex
  refine ⟨len, fun A out s H as us vs Q E hg room env bind vals want => ?_⟩
  have ln := len _ _ _ _ want
  have old : ∀ b o, base.get? b = some o → s.heap.get? b = some o := fun b o e => (env.bs b o e).1
  have here : K.In s.heap := env.mod.kin.keeps old
  refine codeAny_call_function room.depth (here _ _ look) rfl S.co S.gen rfl (PySem.W.codeRec_of here code) (bind _ _ _ _ ?_)
  refine wpAny_newFunctionEnv_cells S.kind (fun ⟨n, v⟩ m => (S.par n (List.of_mem_zip m).1).elim .inl fun c => .inr ⟨c, PySem.W.cellsFrom_some _ _ _ (.inl c)⟩) fun en he s1 x => ?_
  subst he
  refine ⟨(env.mod.nolimit.keeps old).keeps x.toInCall.keep, codeAny_func ?_⟩
  obtain ⟨t, rule, holds⟩ := hb cd A out s H vs Q E hg (room.deeper _) want
  have start0 := inv_start (CX := CX0) (E := E) S room.hd env ln vals x
  refine wpAny_mono (rule.nox.run [] s1 (start N vs) H _ start0 holds) (fun r s' z => ?_) fun _ _ z => z
  match r, z with
  | .ret u, ⟨v, σ', H', J, rv, q⟩ => exact ⟨v, H', J.os, J.bare, J.base, J.hok, rv, q⟩
  | .next, ⟨σ', H', J, q⟩ => exact ⟨.non, H', J.os, J.bare, J.base, J.hok, rfl, q⟩
  | .brk, ⟨_, _, _, q⟩ => exact False.elim q
  | .cont, ⟨_, _, _, q⟩ => exact False.elim q
end
/-- where a def stands, under the name x, with its promise -/
structure Cal (P : Program) (w : World) (K : PySem.W.Frag) (mg : Str → Option Value) (base : Heap) (k : Nat) (x : Str) (ps : List Str) (f : Addr) (fd : FuncData) (sp : Sp) : Prop where
  ok : FnG P w K mg base k f fd ps sp
  kp : PySem.W.keepIn K (.ref f) = true
  b : Binds K fd ps []
  g : mg x = some (.ref f)
  lk : ∃ oc od osl, K.lookup f = some ⟨oc, od, .func fd, osl⟩
theorem fun_lk {K : PySem.W.Frag} {x qual : Str} {st : Stmt} {f : Addr} {fd : FuncData} (F : Fun K x qual st f fd) : ∃ oc od osl, K.lookup f = some ⟨oc, od, .func fd, osl⟩ := by
  obtain ⟨c0, c1, c2, c3, c4, c5, cd, c6, c7, e, look, code⟩ := F.ex
  exact ⟨_, _, _, look⟩
def Has (P : Program) (w : World) (K : PySem.W.Frag) (mg : Str → Option Value) (base : Heap) (k : Nat) (x : Str) (ps : List Str) (sp : Sp) : Prop := ∃ f fd, Cal P w K mg base k x ps f fd sp
/-- the def of the text st stands under the name x -/
def At (K : PySem.W.Frag) (mg : Str → Option Value) (x : Str) (st : Stmt) (ps : List Str) : Prop := ∃ f fd, Fun K x x st f fd ∧ Binds K fd ps [] ∧ mg x = some (.ref f)
section
variable {P : Program} {w : World} {K : PySem.W.Frag} {mg : Str → Option Value} {base : Heap} {j k : Nat} {x : Str} {ps : List Str} {sp sp' : Sp}
theorem Has.up (h : Has P w K mg base j x ps sp) (l : j ≤ k) : Has P w K mg base k x ps sp := by
  obtain ⟨f, fd, c⟩ := h
  exact ⟨f, fd, c.ok.up l, c.kp, c.b, c.g, c.lk⟩
theorem Has.weak (h : Has P w K mg base k x ps sp) (i : ∀ vs H Q E, sp' vs H Q E → sp vs H Q E) : Has P w K mg base k x ps sp' := by
  obtain ⟨f, fd, c⟩ := h
  exact ⟨f, fd, c.ok.weak i, c.kp, c.b, c.g, c.lk⟩
theorem Has.by {st : Stmt} {N : List Str} (F : At K mg x st ps) (S : FnScope N ps (defScope st)) (len : ∀ vs H Q E, sp vs H Q E → vs.length = ps.length)
    (hb : ∀ (f : Addr) (cdv : Value) (A : Around) (out : List Env) (s : Shared) (H : Hp) (vs : List V) (Q : VK) (E : XK), A.guards = some [] → Room k (A.deeper (envOfC x (defScope st) s.heap.objs.size f cdv)) → sp vs H Q E →
      ∃ t, PSs (cxOf CX0 P w K mg base N x (defScope st) f cdv A out s H E).nox (defBody st) t ∧ t { nx := fun _ H' => Q .non H', rt := Q } (start N vs) H) : Has P w K mg base (k + 1) x ps sp := by
  obtain ⟨f, fd, F, b, g⟩ := F
  exact ⟨f, fd, .body F S len (hb f), F.kp, b, g, fun_lk F⟩
end
/-- the def behind a name is the text's -/
theorem Cal.text {P : Program} {w : World} {K : PySem.W.Frag} {mg : Str → Option Value} {base : Heap} {k : Nat} {x : Str} {ps qs : List Str} {f : Addr} {fd : FuncData} {sp : Sp} {st : Stmt} (c : Cal P w K mg base k x ps f fd sp) (F : At K mg x st qs) : Fun K x x st f fd := by
  obtain ⟨f2, fd2, F2, _, g2⟩ := F
  have e := c.g.symm.trans g2
  cases e
  obtain ⟨_, _, _, l1⟩ := c.lk
  obtain ⟨_, _, _, l2⟩ := fun_lk F2
  have e := l1.symm.trans l2
  cases e
  exact F2
section
variable {X : Cx} {k : Nat} {x : Str} {ps ks : List Str} {f : Addr} {fd : FuncData} {sp : Sp} {p pos : Pos} {e : Expr} {es : List Expr} {kws : List Keyword} {t tk : TA}
  {g : List Value → List Value → List Value} {gV : List V → List V → List V}
def tCal (sp : Sp) (t : TA) : TE := fun σ H Q => t σ H fun vs H1 => sp vs H1 Q E0
def tCal0 (sp : Sp) : TE := fun _ H Q => sp [] H Q E0
def tCalK (sp : Sp) (gV : List V → List V → List V) (t tk : TA) : TE := fun σ H Q => t σ H fun vs H1 => tk σ H1 fun zs H2 => sp (gV vs zs) H2 Q E0
theorem cal_run {pins : List (Addr × Obj)} {σ : L2.St} {H : Hp} {s : Shared} {Q : VK} {us ws zs : List Value} {vs : List V} {kw : List (Str × Value)} {s2 : Shared} (c : FnG X.prog X.w X.K X.mg X.base k f fd ps sp) (hg : X.A.guards = some []) (hr : Room k X.A)
    (I : Inv X pins σ H s) (bind : BindsTo s fd ⟨us, kw⟩ (ps.zip zs)) (vals : Vals vs zs) (h : sp vs H Q E0) : wpAny (model X.prog X.w) X.A (call (.ref f) us kw) (EP X pins σ Q) X.xe s := by
  refine wpAny_call (codeAny_mono (c.run X.A X.stack s H ⟨us, kw⟩ zs vs Q E0 hg hr I.env0 bind vals h) fun r s' z => ?_)
  match r, z with
  | .error _, z => exact z.elim
  | .ok (.ret _), z => exact I.after z
  | .ok .next, z => exact z.elim
  | .ok .brk, z => exact z.elim
  | .ok .cont, z => exact z.elim
/-- f(e, ..) -/
theorem pe_cal (c : Cal X.prog X.w X.K X.mg X.base k x ps f fd sp) (hg : X.A.guards = some []) (hr : Room k X.A) (gl : Gl X x) (ha : PA X (e :: es) t) (hdb : (x == ("__debug__" : Str)) = false := by decide)
    (he : starEach (e :: es) X.env = (false, eval e X.env) :: starEach es X.env := by rfl) (hpl : (backTo pos (starEach es X.env)).any (·.1) = false := by rfl) :
    PE X (.Call (.Name x p) (e :: es) [] pos) (tCal sp t) := by
  refine ⟨fun pins s σ H Q I h => wpAny_Call_Name_kw (ld_glob I gl c.g ?_ hdb)⟩
  refine PySem.W.callWith_K (h₀ := X.base) I.ok.mod.kin c.kp (thn (ha.run pos pins s σ H _ I h) fun us s1 ⟨vs, H1, I1, r, q⟩ => ⟨I1.kIn, ?_⟩) he hpl
  have ln : (us ++ []).length = ps.length := by
    rw [List.append_nil, ← r.length]
    exact c.ok.len _ _ _ _ q
  have bd := c.b s1 us I1.kIn ln
  rw [List.append_nil] at bd
  exact cal_run (ws := []) (s2 := s1) c.ok hg hr I1 bd r q
/-- f() -/
theorem pe_cal0 (c : Cal X.prog X.w X.K X.mg X.base k x ps f fd sp) (hg : X.A.guards = some []) (hr : Room k X.A) (gl : Gl X x) (hdb : (x == ("__debug__" : Str)) = false := by decide) :
    PE X (.Call (.Name x p) [] [] pos) (tCal0 sp) := by
  refine ⟨fun pins s σ H Q I h => wpAny_Call_Name_kw (ld_glob I gl c.g ?_ hdb)⟩
  have ln := c.ok.len _ _ _ _ h
  exact PySem.W.callWith_K0 I.kIn c.kp (cal_run (ws := []) (zs := []) (s2 := s) c.ok hg hr I (c.b s [] I.kIn ln) .nil h)
/-- f(e, .., n = v, ..) and f(n = v, ..) -/
theorem pe_calK (c : Cal X.prog X.w X.K X.mg X.base k x ps f fd sp) (hb : KBinds X.K fd ps ks g gV) (hg : X.A.guards = some []) (hr : Room k X.A) (gl : Gl X x) (ha : PA X (e :: es) t) (hkw : PK X kws tk)
    (hall : (backToKw pos (keywordEach kws X.env)).all (·.1.isSome) = true := by rfl) (hks : (backToKw pos (keywordEach kws X.env)).filterMap (·.1) = ks := by rfl) (hdb : (x == ("__debug__" : Str)) = false := by decide)
    (he : starEach (e :: es) X.env = (false, eval e X.env) :: starEach es X.env := by rfl)
    (hpl : ((backTo pos (starEach (e :: es) X.env)).any (·.1) || (backToKw pos (keywordEach kws X.env)).any (·.1.isNone)) = false := by rfl) :
    PE X (.Call (.Name x p) (e :: es) kws pos) (tCalK sp gV t tk) := by
  refine ⟨fun pins s σ H Q I h => wpAny_Call_Name_kw (ld_glob I gl c.g ?_ hdb)⟩
  refine PySem.W.callWith_KW (h₀ := X.base) I.ok.mod.kin c.kp hall (thn (ha.run pos pins s σ H _ I h) fun us s1 ⟨vs, H1, I1, r, q⟩ => ?_) hpl he
  refine thn (hkw.run pos pins s1 σ H1 _ I1 q) fun ws s2 ⟨zs, H2, I2, rz, q2⟩ => ⟨I2.kIn, ?_⟩
  rw [hks]
  have r2 := hb.rel r rz
  exact cal_run (ws := []) (s2 := s2) c.ok hg hr I2 (hb.to s2 us ws I2.kIn (by rw [← r2.length]; exact c.ok.len _ _ _ _ q2)) r2 q2
theorem pe_calK0 (c : Cal X.prog X.w X.K X.mg X.base k x ps f fd sp) (hb : KBinds X.K fd ps ks g gV) (hg : X.A.guards = some []) (hr : Room k X.A) (gl : Gl X x) (hkw : PK X kws tk)
    (hall : (backToKw pos (keywordEach kws X.env)).all (·.1.isSome) = true := by rfl) (hks : (backToKw pos (keywordEach kws X.env)).filterMap (·.1) = ks := by rfl) (hdb : (x == ("__debug__" : Str)) = false := by decide)
    (hpl : ((backTo pos (starEach [] X.env)).any (·.1) || (backToKw pos (keywordEach kws X.env)).any (·.1.isNone)) = false := by rfl) :
    PE X (.Call (.Name x p) [] kws pos) (tCalK sp gV tNil tk) := by
  refine ⟨fun pins s σ H Q I h => wpAny_Call_Name_kw (ld_glob I gl c.g ?_ hdb)⟩
  refine PySem.W.callWith_KW0 (h₀ := X.base) I.ok.mod.kin c.kp hall (thn (hkw.run pos pins s σ H _ I h) fun ws s2 ⟨zs, H2, I2, rz, q2⟩ => ⟨I2.kIn, ?_⟩) hpl
  rw [hks]
  have r2 := hb.rel (vs := []) (us := []) .nil rz
  exact cal_run (ws := []) (s2 := s2) c.ok hg hr I2 (hb.to s2 [] ws I2.kIn (by rw [← r2.length]; exact c.ok.len _ _ _ _ q2)) r2 q2
end
/-! ### repr of data -/
theorem repr_flat {P : Program} {w : World} {A : Around} {E : Value → Shared → Prop} {s : Shared} {u : Value} {d : PyData} {as : List Addr} {Q : Value → Shared → Prop} (r : Reads s.heap u d as) (sh : d.showable = true) (nd : d.hasDict = false) (hg : A.guards = some []) (hu : A.units + (d.depth + 1) < cLine) (sz : d.shown.length ≤ sizeLine)
    (hQ : ∀ h' t tk, (∀ b o, s.heap.get? b = some o → h'.get? b = some o) → Q (.str d.shown t) { s with heap := h', toks := tk }) : wpAny (model P w) A (call (.builtin "repr") [u]) Q E s := by
  have no : ∀ b o, s.heap.get? b = some o → s.heap.get? b = some o := fun _ _ e => e
  cases r with
  | none => exact _root_.PySem.P.repr_of_none (hQ s.heap s.toks (s.toks + 1) no)
  | bool b =>
    refine _root_.PySem.P.repr_of_bool ?_
    cases b
    · exact hQ s.heap s.toks (s.toks + 1) no
    · exact hQ s.heap s.toks (s.toks + 1) no
  | int i t => exact _root_.PySem.P.repr_of_int (of_decide_eq_true sh) (hQ s.heap s.toks (s.toks + 1) no)
  | str x t => exact _root_.PySem.P.repr_of_str (hQ s.heap s.toks (s.toks + 1) no) sz
  | list a b c d => exact PySem.repr_of_reads' (.list a b c d) sh (fun z => by rw [nd] at z; cases z) hg hu no (fun h' t tk z => hQ h' t tk z) sz
  | tuple a b c d => exact PySem.repr_of_reads' (.tuple a b c d) sh (fun z => by rw [nd] at z; cases z) hg hu no (fun h' t tk z => hQ h' t tk z) sz
  | dict a b c d e => cases nd
section
variable {X : Cx} {k : Nat}
/-- repr(x), x data without dicts -/
theorem call_reprD (hg : X.A.guards = some []) (hr : Room k X.A) : CallR X (.builtin "repr") (fun xs H Q => ∃ x d, xs = [x] ∧ Dp X.K H x d ∧ d.showable = true ∧ d.hasDict = false ∧ d.depth ≤ 64 ∧ d.shown.length ≤ sizeLine ∧ Q (.str d.shown) H) := by
  intro pins s σ H xs us Q I r h
  obtain ⟨x, d, rfl, dp, sh, nd, de, sz, q⟩ := h
  obtain ⟨u, rfl, ru⟩ := r.one
  obtain ⟨as, rd⟩ := Dp.reads I d x u dp ru
  have un := hr.un
  exact repr_flat rd sh nd hg (by omega) sz fun h' t tk keep => ⟨.str _, H, I.kept keep, ⟨_, rfl⟩, q⟩
end
def rRepr (K : PySem.W.Frag) : List V → Hp → VK → Prop := fun xs H Q => ∃ x d, xs = [x] ∧ Dp K H x d ∧ d.showable = true ∧ d.hasDict = false ∧ d.depth ≤ 64 ∧ d.shown.length ≤ sizeLine ∧ Q (.str d.shown) H
theorem call_reprDK {X : Cx} {K : PySem.W.Frag} {k : Nat} (h : X.K = K) (hg : X.A.guards = some []) (hr : Room k X.A) : CallR X (.builtin "repr") (rRepr K) := h ▸ call_reprD hg hr
/-! ### the end: the law's promise where the claim's caller calls it -/
theorem end_call {P : Program} {w : World} {K : PySem.W.Frag} {mg mb : Str → Option Value} {k : Nat} {fa a : Addr} {fd : FuncData} {x : Str} {sp : Sp} {s : Shared} {vs : List Value} {ns : List Int}
    (kin : K.In s.heap) (glob : s.heap.Ns mainGlobals mg) (blt : s.heap.Ns builtinsNs mb) (same : ∀ x : Str, x ≠ "__name__" → mb x = bootBuiltins x) (lim : s.heap.NoLimit) (gens : s.gens = #[])
    (obj : s.heap.get? a = some { cls := .type "list", data := .seq vs.toArray }) (numb : IntsAre vs ns) (short : ns.length ≤ sizeLine) (room : Room k callerA)
    (F : ∀ base : Heap, K.In base → base.Ns mainGlobals mg → FnG P w K mg base k fa fd [x] sp) (bind : ∀ (s : Shared) (u : Value), BindsTo s fd ⟨[u], []⟩ [(x, u)])
    (want : ∀ H : Hp, Only H → SqL K H a (ns.map V.int) → sp [.ref a] H (fun v _ => v = .bl true) fun _ _ _ => False) :
    codeAny (model P w) callerA (.call (.ref fa) ⟨[.ref a], []⟩) (fun r s' => r = .ok (.ret (.bool true)) ∧ OldK s.heap s'.heap ∧ s'.os = s.os ∧ AllBare s'.gens) s := by
  have vals := vals_ints numb
  -- one step: whatever part H of the script's object is tracked
  have go : ∀ H : Hp, Only H → SqL K H a (ns.map V.int) → HOk P w H s.heap → (∀ b, H b ≠ none → b = a ∧ K.lookup a = none) →
      codeAny (model P w) callerA (.call (.ref fa) ⟨[.ref a], []⟩) (fun r s' => r = .ok (.ret (.bool true)) ∧ OldK s.heap s'.heap ∧ s'.os = s.os ∧ AllBare s'.gens) s := by
    intro H only sq hok at1
    have untracked : ∀ {b : Addr} {o : Obj} {es : Array DictEntry} {n : Nat}, s.heap.get? b = some o → o.data = .dict es n → H b = none := fun {b o es n} e d => by
      by_cases z : H b = none
      · exact z
      · have e2 := (at1 b z).1
        subst e2
        rw [obj] at e
        cases e
        cases d
    have names : ∀ {b : Addr} {m : Str → Option Value}, s.heap.Ns b m → (hidT s.heap H).Ns b m := fun {b m} ⟨o, es, n, e, d, r⟩ => ⟨o, es, n, hidT_get e (untracked e d), d, r⟩
    have kin2 : K.In (hidT s.heap H) := fun b o e => by
      refine hidT_get (kin b o e) ?_
      by_cases z : H b = none
      · exact z
      · obtain ⟨z1, z2⟩ := at1 b z
        rw [z1, z2] at e
        cases e
    obtain ⟨mc, l1, l2⟩ := lim
    have env : Env0 P w K mg (hidT s.heap H) callerA [] s H :=
      ⟨rfl, ⟨kin2, names glob, ⟨mb, names blt, same⟩, ⟨mc, names l1, l2⟩⟩, fun b o e => of_hidT e, Nat.le_of_eq (hidT_size _ _), trivial, fun b m => absurd (show b ∈ ([] : List Addr) from m) List.not_mem_nil, hok, AllBare.of_eq gens⟩
    refine codeAny_mono ((F _ kin2 (names glob)).run callerA [] s H ⟨[.ref a], []⟩ [.ref a] [.ref a] _ _ rfl room env (bind s (.ref a)) (.cons rfl .nil) (want H only sq)) fun r s' z => ?_
    match r, z with
    | .error _, z => exact z.elim
    | .ok .next, z => exact z.elim
    | .ok .brk, z => exact z.elim
    | .ok .cont, z => exact z.elim
    | .ok (.ret u), ⟨v, H', os, bare, un, hok2, rv, q⟩ =>
      have q : v = .bl true := q
      subst q
      obtain rfl : u = Value.bool true := rv
      refine ⟨rfl, OldK.of_keep fun b o e => ?_, os, bare⟩
      by_cases z : H b = none
      · exact un.keep b o e z (fun m => absurd (show b ∈ ([] : List Addr) from m) List.not_mem_nil) List.not_mem_nil
      · rcases only b with y | ⟨ob, xs, y⟩
        · exact absurd y z
        · have e1 := (hok b _ y).1
          have e2 := (hok2 b _ (un.frzs b ob _ y)).1
          rw [e] at e1
          cases e1
          exact e2
  by_cases hk : K.lookup a = none
  · refine go (fun b => if b = a then some (.frz { cls := .type "list", data := .seq vs.toArray } (.lst (ns.map V.int))) else none) (fun b => ?_) (.inl (.inr ⟨_, if_pos rfl⟩)) (fun b u e => ?_) (fun b e => ?_)
    · by_cases y : b = a
      · exact .inr ⟨_, _, if_pos y⟩
      · exact .inl (if_neg y)
    · by_cases y : b = a
      · cases (if_pos y).symm.trans e
        subst y
        exact ⟨obj, by rw [List.length_map]; exact short, vs, _, vals, obj⟩
      · cases (if_neg y).symm.trans e
    · by_cases y : b = a
      · exact ⟨y, hk⟩
      · exact absurd (if_neg y) e
  · obtain ⟨o, ho⟩ := Option.ne_none_iff_exists'.mp hk
    have e := kin a o ho
    rw [obj] at e
    cases e
    refine go (fun _ => none) (fun _ => .inl rfl) (.inr ⟨_, vs.toArray, _, ho, rfl, rfl, rfl, ?_, vals⟩) (fun b u e => by cases e) (fun b e => absurd rfl e)
    rw [List.size_toArray, numb.length]
    exact short
theorem walk_G {l : PySem.W.OpenLaw} {n k : Nat} {q : Program} {loose : List Str} {XP : (Str → Option Value) → Heap → Prop} {YP : World → Heap → Prop} {d : DefRec} {K : Params → PySem.W.Frag} {sp : PySem.W.Frag → Sp} {x : Str}
    (hn : l.most = some n) (hn2 : n ≤ sizeLine) (hdf : d.params.defaults = []) (hr : Room k callerA) (hY : ∀ (w : World) (h : Heap), YP w h → (K w.params).In h)
    (F : ∀ (w : World) (mg : Str → Option Value) (fa : Addr) (h : Heap), (K w.params).In h → h.Ns mainGlobals mg → mg d.name = some (.ref fa) →
      ∃ fd : FuncData, (∀ (s : Shared) (u : Value), BindsTo s fd ⟨[u], []⟩ [(x, u)]) ∧ ∀ base : Heap, (K w.params).In base → base.Ns mainGlobals mg → FnG l.prog w (K w.params) mg base k fa fd [x] (sp (K w.params)))
    (want : ∀ (K : PySem.W.Frag) (H : Hp) (a : Addr) (ns : List Int), ns.length ≤ n → Only H → SqL K H a (ns.map V.int) → sp K [.ref a] H (fun v _ => v = .bl true) fun _ _ _ => False) :
    PySem.W.WalkO q loose XP YP l.row.toRowW d [] (fun f vs => PySem.call f vs) := by
  refine Att.attach_call hn hdf fun w s0 s mg mb fa o pm cd doc a vs ns G Y _ _ _ hmg obj numb short gens => ?_
  have kin := hY w _ Y
  obtain ⟨fd, bind, ok⟩ := F w mg fa _ kin G.T.g hmg
  exact end_call kin G.T.g G.T.b G.T.builtins G.T.nolimit gens obj numb (Nat.le_trans short hn2) hr ok bind fun H o sq => want _ H a ns short o sq
end Lj
set_option Elab.async false
set_option linter.all false
set_option maxRecDepth 100000
namespace Lj
open PySem PySem.Spec PyProof.Rows L2
/-- the built-ins are not hidden by names of the module -/
structure Bl (mg : Str → Option Value) : Prop where
  len_ : mg "len" = none
  abs_ : mg "abs" = none
  int_ : mg "int" = none
  range_ : mg "range" = none
  max_ : mg "max" = none
  min_ : mg "min" = none
  all_ : mg "all" = none
  sum_ : mg "sum" = none
  list_ : mg "list" = none
  tuple_ : mg "tuple" = none
  isinstance_ : mg "isinstance" = none
  bool_ : mg "bool" = none
  repr_ : mg "repr" = none
  enumerate_ : mg "enumerate" = none
  zip_ : mg "zip" = none
  divmod_ : mg "divmod" = none
theorem Has.none {P : Program} {w : World} {K : PySem.W.Frag} {mg : Str → Option Value} {base : Heap} {k : Nat} {x : Str} {ps : List Str} {sp : Sp} {st : Stmt} (F : At K mg x st ps) (no : ∀ vs H Q E, ¬ sp vs H Q E) : Has P w K mg base k x ps sp := by
  obtain ⟨f, fd, F, b, g⟩ := F
  exact ⟨f, fd, ⟨fun vs H Q E h => absurd h (no vs H Q E), fun A out s H as us vs Q E _ _ _ _ _ h => absurd h (no vs H Q E)⟩, F.kp, b, g, fun_lk F⟩
/-! ### trees: instructions -/
inductive Tr where
  | op (w : Str) (as : List Int)
  | loop (k : Int) (b : List Tr)
mutual
def Tr.len : Tr → Int
  | .op _ _ => 1
  | .loop k b => k * lens b
def lens : List Tr → Int
  | [] => 0
  | t :: r => t.len + lens r
end
mutual
def Tr.inn : Tr → Int
  | .op _ _ => 0
  | .loop _ b => (b.length : Int) + inns b
def inns : List Tr → Int
  | [] => 0
  | t :: r => t.inn + inns r
end
def szs (b : List Tr) : Int := (b.length : Int) + inns b
mutual
def Tr.dep : Tr → Int
  | .op _ _ => 0
  | .loop _ b => 1 + deps b
def deps : List Tr → Int
  | [] => 0
  | t :: r => if t.dep > deps r then t.dep else deps r
end
mutual
def Tr.cnt (w : Str) : Tr → Int
  | .op u _ => if u = w then 1 else 0
  | .loop k b => k * cnts w b
def cnts (w : Str) : List Tr → Int
  | [] => 0
  | t :: r => t.cnt w + cnts w r
end
mutual
/-- what is executed, one after another -/
def Tr.ex : Tr → List Tr
  | .op w as => [.op w as]
  | .loop k b => (List.replicate k.toNat (exs b)).flatten
def exs : List Tr → List Tr
  | [] => []
  | t :: r => t.ex ++ exs r
end
mutual
/-- loops at most n deep, the words of the others not loop -/
def Tr.wf : Tr → Nat → Prop
  | .op w _, _ => w ≠ "loop"
  | .loop _ _, 0 => False
  | .loop k b, n + 1 => 0 ≤ k ∧ k ≤ 10 ^ 18 ∧ b.length ≤ 1000 ∧ wfs b n
def wfs : List Tr → Nat → Prop
  | [], _ => True
  | t :: r, n => t.wf n ∧ wfs r n
end
/-- a body for functions that may go n - 1 loops down -/
def okB : Nat → List Tr → Prop
  | 0, _ => False
  | n + 1, b => wfs b n ∧ b.length ≤ 1000
theorem lens_map : ∀ b : List Tr, lens b = (b.map Tr.len).sum
  | [] => rfl
  | t :: r => by rw [lens, lens_map r, List.map_cons, List.sum_cons]
theorem inns_map : ∀ b : List Tr, inns b = (b.map Tr.inn).sum
  | [] => rfl
  | t :: r => by rw [inns, inns_map r, List.map_cons, List.sum_cons]
theorem cnts_map (w : Str) : ∀ b : List Tr, cnts w b = (b.map (Tr.cnt w)).sum
  | [] => rfl
  | t :: r => by rw [cnts, cnts_map w r, List.map_cons, List.sum_cons]
theorem exs_map : ∀ b : List Tr, exs b = (b.map Tr.ex).flatten
  | [] => rfl
  | t :: r => by rw [exs, exs_map r, List.map_cons, List.flatten_cons]
theorem wfs_get : ∀ {b : List Tr} {n i : Nat} {t : Tr}, wfs b n → b[i]? = some t → t.wf n
  | [], _, _, _, _, e => by simp at e
  | t :: r, n, 0, u, h, e => by
    cases e
    rw [wfs] at h
    exact h.1
  | t :: r, n, i + 1, u, h, e => by
    rw [wfs] at h
    exact wfs_get (i := i) h.2 e
theorem wfs_all : ∀ {b : List Tr} {n : Nat}, (∀ t ∈ b, t.wf n) → wfs b n
  | [], _, _ => by rw [wfs]; trivial
  | t :: r, n, h => by
    rw [wfs]
    exact ⟨h t List.mem_cons_self, wfs_all fun u m => h u (List.mem_cons_of_mem _ m)⟩
theorem okB_loop {b b' : List Tr} {n i : Nat} {k : Int} (h : okB (n + 1) b) (e : b[i]? = some (.loop k b')) : 0 ≤ k ∧ k ≤ 10 ^ 18 ∧ okB n b' := by
  have z := wfs_get h.1 e
  cases n with
  | zero => rw [Tr.wf] at z; exact z.elim
  | succ m =>
    rw [Tr.wf] at z
    exact ⟨z.1, z.2.1, z.2.2.2, z.2.2.1⟩
theorem okB_op {b : List Tr} {n i : Nat} {w : Str} {as : List Int} (h : okB (n + 1) b) (e : b[i]? = some (.op w as)) : w ≠ "loop" := by
  have z := wfs_get h.1 e
  rw [Tr.wf] at z
  exact z
theorem at0 {x : V} {xs : List V} : atI (x :: xs) 0 = some x := atI_nat (j := 0) rfl
theorem sum_next {f : Tr → Int} {b : List Tr} {i : Nat} {t : Tr} (e : b[i]? = some t) : ((b.take (i + 1)).map f).sum = ((b.take i).map f).sum + f t := by
  rw [List.take_add_one, e, List.map_append, List.sum_append]
  show _ + (f t + 0) = _
  rw [Int.add_zero]
theorem map_next {α : Type} {f : Tr → α} {b : List Tr} {i : Nat} {t : Tr} (e : b[i]? = some t) : (b.take (i + 1)).map f = (b.take i).map f ++ [f t] := by
  rw [List.take_add_one, e, List.map_append]
  rfl
/-! ### trees in the heap -/
def Kt (H H' : Hp) : Prop := ∀ a xs, Rd H a (.tup xs) → Rd H' a (.tup xs)
theorem Kt.refl (H : Hp) : Kt H H := fun _ _ h => h
theorem Kt.trans {H H1 H2 : Hp} (a : Kt H H1) (b : Kt H1 H2) : Kt H H2 := fun c o h => b c o (a c o h)
theorem Kt.same {H H' : Hp} (s : Same H H') : Kt H H' := fun a xs h => by
  rcases h with h | ⟨o, h⟩
  · exact .inl (s _ _ h)
  · exact .inr ⟨o, s _ _ h⟩
theorem Kt.but {p : Addr} {H H' : Hp} {xs : List V} (b : But p H H') (e : H p = some (.lst xs)) : Kt H H' := fun a ys h => by
  refine b.rd (fun z => ?_) h
  subst z
  rcases h with h | ⟨o, h⟩
  · rw [e] at h; cases h
  · rw [e] at h; cases h
theorem Urn.kt {p : Addr} {H H' : Hp} (u : Urn H p) (b : But p H H') : Kt H H' := by
  obtain ⟨_, _, e, _⟩ := u
  exact Kt.but b e
theorem Kt.sq {K : PySem.W.Frag} {H H' : Hp} {a : Addr} {xs : List V} (k : Kt H H') (h : SqT K H a xs) : SqT K H' a xs := by
  rcases h with h | h
  · exact .inl (k _ _ h)
  · exact .inr h
mutual
def TrAt (K : PySem.W.Frag) (H : Hp) : Tr → V → Prop
  | .op w as, v => ∃ a, v = .ref a ∧ SqT K H a (.str w :: as.map V.int)
  | .loop k b, v => ∃ a c vs, v = .ref a ∧ SqT K H a [.str "loop", .int k, .ref c] ∧ SqT K H c vs ∧ TrsAt K H b vs
def TrsAt (K : PySem.W.Frag) (H : Hp) : List Tr → List V → Prop
  | [], vs => vs = []
  | t :: r, vs => ∃ v us, vs = v :: us ∧ TrAt K H t v ∧ TrsAt K H r us
end
def BodyAt (K : PySem.W.Frag) (H : Hp) (b : List Tr) (v : V) : Prop := ∃ c vs, v = .ref c ∧ SqT K H c vs ∧ TrsAt K H b vs
mutual
theorem TrAt.kt {K : PySem.W.Frag} {H H' : Hp} (k : Kt H H') : ∀ (t : Tr) (v : V), TrAt K H t v → TrAt K H' t v
  | .op w as, v, h => by
    rw [TrAt] at h ⊢
    obtain ⟨a, e, s⟩ := h
    exact ⟨a, e, k.sq s⟩
  | .loop n b, v, h => by
    rw [TrAt] at h ⊢
    obtain ⟨a, c, vs, e, s, s2, r⟩ := h
    exact ⟨a, c, vs, e, k.sq s, k.sq s2, TrsAt.kt k b vs r⟩
theorem TrsAt.kt {K : PySem.W.Frag} {H H' : Hp} (k : Kt H H') : ∀ (b : List Tr) (vs : List V), TrsAt K H b vs → TrsAt K H' b vs
  | [], vs, h => by
    rw [TrsAt] at h ⊢
    exact h
  | t :: r, vs, h => by
    rw [TrsAt] at h ⊢
    obtain ⟨v, us, e, a, b⟩ := h
    exact ⟨v, us, e, TrAt.kt k t v a, TrsAt.kt k r us b⟩
end
theorem BodyAt.kt {K : PySem.W.Frag} {H H' : Hp} {b : List Tr} {v : V} (k : Kt H H') (h : BodyAt K H b v) : BodyAt K H' b v := by
  obtain ⟨c, vs, e, s, r⟩ := h
  exact ⟨c, vs, e, k.sq s, TrsAt.kt k b vs r⟩
theorem TrsAt.length {K : PySem.W.Frag} {H : Hp} : ∀ {b : List Tr} {vs : List V}, TrsAt K H b vs → vs.length = b.length
  | [], vs, h => by
    rw [TrsAt] at h
    rw [h]
    rfl
  | t :: r, vs, h => by
    rw [TrsAt] at h
    obtain ⟨v, us, rfl, _, k⟩ := h
    rw [List.length_cons, List.length_cons, TrsAt.length k]
theorem TrsAt.get {K : PySem.W.Frag} {H : Hp} : ∀ {b : List Tr} {vs : List V} {i : Nat} {v : V}, TrsAt K H b vs → vs[i]? = some v → ∃ t, b[i]? = some t ∧ TrAt K H t v
  | [], vs, i, v, h, e => by
    rw [TrsAt] at h
    rw [h] at e
    simp at e
  | t :: r, vs, 0, v, h, e => by
    rw [TrsAt] at h
    obtain ⟨v', us, rfl, a, _⟩ := h
    cases e
    exact ⟨t, rfl, a⟩
  | t :: r, vs, i + 1, v, h, e => by
    rw [TrsAt] at h
    obtain ⟨v', us, rfl, _, k⟩ := h
    exact TrsAt.get (i := i) k e
theorem TrsAt.append {K : PySem.W.Frag} {H : Hp} : ∀ {b c : List Tr} {vs us : List V}, TrsAt K H b vs → TrsAt K H c us → TrsAt K H (b ++ c) (vs ++ us)
  | [], c, vs, us, h, k => by
    rw [TrsAt] at h
    rw [h]
    exact k
  | t :: r, c, vs, us, h, k => by
    rw [TrsAt] at h
    obtain ⟨v, ws, rfl, a, l⟩ := h
    show TrsAt K H (t :: (r ++ c)) (v :: (ws ++ us))
    rw [TrsAt]
    exact ⟨v, _, rfl, a, TrsAt.append l k⟩
theorem TrsAt.one {K : PySem.W.Frag} {H : Hp} {t : Tr} {v : V} (h : TrAt K H t v) : TrsAt K H [t] [v] := by
  rw [TrsAt]
  exact ⟨v, [], rfl, h, by rw [TrsAt]⟩
theorem TrsAt.nil {K : PySem.W.Frag} {H : Hp} : TrsAt K H [] [] := by rw [TrsAt]
/-! ### promises about trees -/
def spTI (K : PySem.W.Frag) (ok : List Tr → Prop) (f : List Tr → Int) : Sp := fun vs H Q _ => ∃ v b, vs = [v] ∧ BodyAt K H b v ∧ ok b ∧ ∀ H', Same H H' → Q (.int (f b)) H'
def spII (K : PySem.W.Frag) (ok : Tr → Prop) (f : Tr → Int) : Sp := fun vs H Q _ => ∃ v t, vs = [v] ∧ TrAt K H t v ∧ ok t ∧ ∀ H', Same H H' → Q (.int (f t)) H'
def spWI (K : PySem.W.Frag) (ok : List Tr → Prop) : Sp := fun vs H Q _ => ∃ v b w, vs = [v, .str w] ∧ BodyAt K H b v ∧ ok b ∧ w ≠ "loop" ∧ ∀ H', Same H H' → Q (.int (cnts w b)) H'
theorem same_upd {H H' : Hp} {D : Addr} {o : HO} (s : Same H H') (n : H D = none) : Same H (upd H' D o) := fun b x e => by
  rw [upd_ne (ne_of_none e n)]
  exact s _ _ e
end Lj
namespace Lj
mutual
theorem Tr.dep_nn : ∀ t : Tr, 0 ≤ t.dep
  | .op _ _ => by rw [Tr.dep]; decide
  | .loop _ b => by
    rw [Tr.dep]
    have := deps_nn b
    omega
theorem deps_nn : ∀ b : List Tr, 0 ≤ deps b
  | [] => by rw [deps]; decide
  | t :: r => by
    rw [deps]
    have h1 := Tr.dep_nn t
    have h2 := deps_nn r
    split <;> omega
end
end Lj
set_option Elab.async false
set_option linter.all false
set_option maxRecDepth 100000
namespace Lj
open PySem PySem.Spec PyProof.Rows L2
def prs : List Int := [2, 2, 3, 3, 5, 7, 7, 11, 13, 97, 251, 9973, 10007]
theorem prs_bd {q : Int} (h : q ∈ prs) : 2 ≤ q ∧ q ≤ 10007 := by
  have z : (prs.all fun q => decide (2 ≤ q) && decide (q ≤ 10007)) = true := by decide
  have k := List.all_eq_true.mp z q h
  rw [Bool.and_eq_true] at k
  exact ⟨of_decide_eq_true k.1, of_decide_eq_true k.2⟩
def spPrimeU : Sp := fun vs H Q _ => ∃ p : Addr, vs = [.ref p] ∧ Urn H p ∧ ∀ (q : Int) H', q ∈ prs → Urn H' p → But p H H' → Q (.int q) H'
theorem wide_big {n : Int} (h : n ≤ 10 ^ 40) (h0 : 0 ≤ n) : n.natAbs < wide := by
  have z : (10 ^ 40 : Nat) < wide := by decide +kernel
  omega
/-! ### list.count of texts -/
def eqs (z : Str) (v : Value) : Bool := match v with
  | .str y _ => y == z
  | _ => false
theorem count_strs {z : Str} : ∀ {us : List Value} {ss : List Str}, Vals (ss.map V.str) us → us.countP (eqs z) = ss.count z
  | _, [], .nil => rfl
  | _, s :: ss, .cons ⟨t, rfl⟩ r => by
    rw [List.countP_cons, count_strs r, List.count_cons]
    rfl
theorem mem_strs : ∀ {us : List Value} {ss : List Str} {u : Value}, Vals (ss.map V.str) us → u ∈ us → ∃ s t, u = .str s t
  | _, [], _, .nil, m => by cases m
  | _, s :: ss, u, .cons ⟨t, rfl⟩ r, m => by
    rcases List.mem_cons.mp m with rfl | m
    · exact ⟨s, t, rfl⟩
    · exact mem_strs r m
theorem mt_count_str {X : Cx} : MtR X "list.count" (fun x xs H Q => ∃ (p : Addr) (ss : List Str) (z : Str), x = .ref p ∧ xs = [.str z] ∧ SqL X.K H p (ss.map V.str) ∧ Q (.int (ss.count z : Nat)) H) := by
  intro pins s σ H x xs v us Q I rx rxs h
  obtain ⟨p, ss, z, rfl, rfl, sq, q⟩ := h
  cases rx
  obtain ⟨u, rfl, ⟨t, rfl⟩⟩ := rxs.one
  obtain ⟨its, rv, ⟨⟨cls, dd, data, sl⟩, n, ho, hc, hdn, hd⟩, hlen⟩ := I.list sq
  simp only at hc hd
  subst hc hd
  refine call_meets PySem.F.slot_list_count ⟨_, ho, rfl⟩ PySem.F.entry_list_count (PySem.F.args_list_count_2 _ _) (SeqAt.list_countAt p its.toArray n dd sl (.str z t) (eqs z)) ⟨ho, fun y hy => ?_, ?_⟩
  · obtain ⟨a, b, rfl⟩ := mem_strs rv (by simpa using hy)
    exact eqAt_V (y := .str a) (x := .str z) ⟨b, rfl⟩ ⟨t, rfl⟩ rfl rfl
  · refine ⟨.int (ss.count z : Nat), H, I.tok _, ⟨s.toks, ?_⟩, q⟩
    rw [← count_strs rv]
/-! ### instructions as the laws draw them -/
def W7 : List Str := ["set", "copy", "add", "scale", "swap", "read", "write"]
theorem W7_noloop {w : Str} (h : w ∈ W7) : w ≠ "loop" := by
  have z : (W7.all fun w => !(w == ("loop" : Str))) = true := by decide
  have k := List.all_eq_true.mp z w h
  intro e
  subst e
  revert k
  decide
theorem W7_ok {w : Str} (h : w ∈ W7) : PyData.strOk w = true := by
  have z : (W7.all fun w => PyData.strOk w) = true := by decide +kernel
  exact List.all_eq_true.mp z w h
def GoodOp (p n : Int) (w : Str) (as : List Int) : Prop :=
  ((w = "set" ∨ w = "scale") ∧ ∃ x c, as = [x, c] ∧ 0 ≤ x ∧ x < n ∧ 0 ≤ c ∧ c < p) ∨
  ((w = "read" ∨ w = "write") ∧ ∃ x, as = [x] ∧ 0 ≤ x ∧ x < n) ∨
  ((w = "copy" ∨ w = "swap") ∧ ∃ x y, as = [x, y] ∧ 0 ≤ x ∧ x < n ∧ 0 ≤ y ∧ y < n ∧ x ≠ y) ∨
  (w = "add" ∧ ∃ x y c, as = [x, y, c] ∧ 0 ≤ x ∧ x < n ∧ 0 ≤ y ∧ y < n ∧ x ≠ y ∧ 1 ≤ c ∧ c < p)
theorem GoodOp.w7 {p n : Int} {w : Str} {as : List Int} (h : GoodOp p n w as) : w ∈ W7 := by
  rcases h with ⟨rfl | rfl, _⟩ | ⟨rfl | rfl, _⟩ | ⟨rfl | rfl, _⟩ | ⟨rfl, _⟩ <;> decide
mutual
/-- drawn: at most l instructions, loops at most d deep, half as many within; G: of the others, R: of the rounds -/
def Tr.made (G : Str → List Int → Prop) (R : Int → Prop) : Tr → Nat → Nat → Prop
  | .op w as, _, _ => G w as
  | .loop _ _, _, 0 => False
  | .loop k b, l, d + 1 => R k ∧ b.length ≤ l / 2 ∧ mades G R b (l / 2) d
def mades (G : Str → List Int → Prop) (R : Int → Prop) : List Tr → Nat → Nat → Prop
  | [], _, _ => True
  | t :: r, l, d => t.made G R l d ∧ mades G R r l d
end
theorem mades_append {G : Str → List Int → Prop} {R : Int → Prop} : ∀ {b c : List Tr} {l d : Nat}, mades G R b l d → mades G R c l d → mades G R (b ++ c) l d
  | [], _, _, _, _, k => k
  | t :: r, c, l, d, h, k => by
    rw [mades] at h
    show mades G R (t :: (r ++ c)) l d
    rw [mades]
    exact ⟨h.1, mades_append h.2 k⟩
theorem mades_one {G : Str → List Int → Prop} {R : Int → Prop} {t : Tr} {l d : Nat} (h : t.made G R l d) : mades G R [t] l d := by
  rw [mades, mades]
  exact ⟨h, trivial⟩
theorem mades_nil {G : Str → List Int → Prop} {R : Int → Prop} {l d : Nat} : mades G R [] l d := by
  rw [mades]
  trivial
mutual
theorem Tr.made_wf {G : Str → List Int → Prop} {R : Int → Prop} (hG : ∀ w as, G w as → w ∈ W7) (hR : ∀ k, R k → 0 ≤ k ∧ k ≤ 10 ^ 18) : ∀ (t : Tr) (l d : Nat), l ≤ 1000 → t.made G R l d → t.wf d
  | .op w as, l, d, _, h => by
    rw [Tr.made] at h
    rw [Tr.wf]
    exact W7_noloop (hG w as h)
  | .loop k b, l, 0, _, h => by
    rw [Tr.made] at h
    exact h.elim
  | .loop k b, l, d + 1, hl, h => by
    rw [Tr.made] at h
    rw [Tr.wf]
    exact ⟨(hR k h.1).1, (hR k h.1).2, by omega, mades_wf hG hR b (l / 2) d (by omega) h.2.2⟩
theorem mades_wf {G : Str → List Int → Prop} {R : Int → Prop} (hG : ∀ w as, G w as → w ∈ W7) (hR : ∀ k, R k → 0 ≤ k ∧ k ≤ 10 ^ 18) : ∀ (b : List Tr) (l d : Nat), l ≤ 1000 → mades G R b l d → wfs b d
  | [], _, _, _, _ => by rw [wfs]; trivial
  | t :: r, l, d, hl, h => by
    rw [mades] at h
    rw [wfs]
    exact ⟨Tr.made_wf hG hR t l d hl h.1, mades_wf hG hR r l d hl h.2⟩
end
/-- the most steps that such a body executes, loops of at most 3 rounds -/
def most : Nat → Nat → Nat
  | 0, _ => 1
  | d + 1, l => max 1 (3 * ((l / 2) * most d (l / 2)))
mutual
theorem Tr.made_ex {G : Str → List Int → Prop} {R : Int → Prop} (hR : ∀ k, R k → 0 ≤ k ∧ k ≤ 3) : ∀ (t : Tr) (l d : Nat), t.made G R l d → t.ex.length ≤ most d l
  | .op w as, l, 0, h => by rw [Tr.ex, most]; exact Nat.le_refl 1
  | .op w as, l, d + 1, h => by rw [Tr.ex, most]; exact Nat.le_max_left _ _
  | .loop k b, l, 0, h => by
    rw [Tr.made] at h
    exact h.elim
  | .loop k b, l, d + 1, h => by
    rw [Tr.made] at h
    have ih := mades_ex hR b (l / 2) d h.2.2
    have hk := hR k h.1
    rw [Tr.ex, most, List.length_flatten, List.map_replicate, List.sum_replicate_nat]
    refine Nat.le_trans ?_ (Nat.le_max_right _ _)
    have h1 : (exs b).length ≤ l / 2 * most d (l / 2) := Nat.le_trans ih (Nat.mul_le_mul_right _ h.2.1)
    exact Nat.mul_le_mul (by omega) h1
theorem mades_ex {G : Str → List Int → Prop} {R : Int → Prop} (hR : ∀ k, R k → 0 ≤ k ∧ k ≤ 3) : ∀ (b : List Tr) (l d : Nat), mades G R b l d → (exs b).length ≤ b.length * most d l
  | [], _, _, _ => by rw [exs]; exact Nat.zero_le _
  | t :: r, l, d, h => by
    rw [mades] at h
    have h1 := Tr.made_ex hR t l d h.1
    have h2 := mades_ex hR r l d h.2
    rw [exs, List.length_append, List.length_cons, Nat.succ_mul]
    omega
end
/-! ### what is executed: numbers -/
theorem flat_len {α : Type} (n : Nat) (xs : List α) : ((List.replicate n xs).flatten).length = n * xs.length := by
  rw [List.length_flatten, List.map_replicate, List.sum_replicate_nat]
mutual
theorem Tr.ex_len : ∀ (t : Tr) (d : Nat), t.wf d → (t.ex.length : Int) = t.len
  | .op w as, _, _ => by rw [Tr.ex, Tr.len]; rfl
  | .loop k b, 0, h => by rw [Tr.wf] at h; exact h.elim
  | .loop k b, d + 1, h => by
    rw [Tr.wf] at h
    have ih := exs_len b d h.2.2.2
    rw [Tr.ex, Tr.len, flat_len, ← ih, Int.natCast_mul]
    congr 1
    omega
theorem exs_len : ∀ (b : List Tr) (d : Nat), wfs b d → ((exs b).length : Int) = lens b
  | [], _, _ => by rw [exs, lens]; rfl
  | t :: r, d, h => by
    rw [wfs] at h
    rw [exs, lens, List.length_append, Int.natCast_add, Tr.ex_len t d h.1, exs_len r d h.2]
end
/-- the word of an instruction -/
def Tr.word : Tr → Str
  | .op w _ => w
  | .loop _ _ => "loop"
theorem count_flat (z : Str) (xs : List Tr) : ∀ n : Nat, (((List.replicate n xs).flatten).map Tr.word).count z = n * (xs.map Tr.word).count z
  | 0 => by simp
  | n + 1 => by rw [List.replicate_succ, List.flatten_cons, List.map_append, List.count_append, count_flat z xs n, Nat.succ_mul, Nat.add_comm]
mutual
theorem Tr.ex_cnt (z : Str) : ∀ (t : Tr) (d : Nat), t.wf d → (((t.ex.map Tr.word).count z : Nat) : Int) = t.cnt z
  | .op w as, _, _ => by
    rw [Tr.ex, Tr.cnt]
    show (([w].count z : Nat) : Int) = _
    rw [List.count_singleton]
    by_cases e : w = z
    · rw [if_pos e, if_pos (beq_iff_eq.mpr e)]
      rfl
    · rw [if_neg e, if_neg (fun h => e (beq_iff_eq.mp h))]
      rfl
  | .loop k b, 0, h => by rw [Tr.wf] at h; exact h.elim
  | .loop k b, d + 1, h => by
    rw [Tr.wf] at h
    have ih := exs_cnt z b d h.2.2.2
    rw [Tr.ex, Tr.cnt, count_flat, ← ih, Int.natCast_mul]
    congr 1
    omega
theorem exs_cnt (z : Str) : ∀ (b : List Tr) (d : Nat), wfs b d → ((((exs b).map Tr.word).count z : Nat) : Int) = cnts z b
  | [], _, _ => by rw [exs, cnts]; rfl
  | t :: r, d, h => by
    rw [wfs] at h
    rw [exs, cnts, List.map_append, List.count_append, Int.natCast_add, Tr.ex_cnt z t d h.1, exs_cnt z r d h.2]
end
/-- all are no loops -/
def Ops (b : List Tr) : Prop := ∀ t ∈ b, ∃ w as, t = .op w as ∧ w ∈ W7
mutual
theorem Tr.ex_ops {G : Str → List Int → Prop} {R : Int → Prop} (hG : ∀ w as, G w as → w ∈ W7) : ∀ (t : Tr) (l d : Nat), t.made G R l d → Ops t.ex
  | .op w as, l, d, h => by
    rw [Tr.made] at h
    rw [Tr.ex]
    intro t m
    exact ⟨w, as, List.mem_singleton.mp m, hG w as h⟩
  | .loop k b, l, 0, h => by rw [Tr.made] at h; exact h.elim
  | .loop k b, l, d + 1, h => by
    rw [Tr.made] at h
    rw [Tr.ex]
    intro t m
    obtain ⟨xs, m1, m2⟩ := List.mem_flatten.mp m
    rw [(List.mem_replicate.mp m1).2] at m2
    exact exs_ops hG b (l / 2) d h.2.2 t m2
theorem exs_ops {G : Str → List Int → Prop} {R : Int → Prop} (hG : ∀ w as, G w as → w ∈ W7) : ∀ (b : List Tr) (l d : Nat), mades G R b l d → Ops (exs b)
  | [], _, _, _ => by rw [exs]; intro t m; cases m
  | t :: r, l, d, h => by
    rw [mades] at h
    rw [exs]
    intro u m
    rcases List.mem_append.mp m with m | m
    · exact Tr.ex_ops hG t l d h.1 u m
    · exact exs_ops hG r l d h.2 u m
end
/-! ### data of instructions -/
def Tr.dat : Tr → PyData
  | .op w as => .tuple (.str w :: as.map .int)
  | .loop _ _ => .none
theorem dp_ints {K : PySem.W.Frag} {H : Hp} : ∀ as : List Int, DpAll K H (as.map V.int) (as.map PyData.int)
  | [] => .nil
  | a :: r => .cons (.int a) (dp_ints r)
theorem lay_ints : ∀ as : List Int, PyData.canLayAll0 (as.map PyData.int) = true
  | [] => by rw [List.map_nil, PyData.canLayAll0]
  | a :: r => by rw [List.map_cons, PyData.canLayAll0, PyData.canLay0, lay_ints r]; rfl
theorem depth_ints : ∀ as : List Int, PyData.depthAll (as.map PyData.int) = 0
  | [] => by rw [List.map_nil, PyData.depthAll]
  | a :: r => by rw [List.map_cons, PyData.depthAll, PyData.depth, depth_ints r]; rfl
theorem Ops.dp {K : PySem.W.Frag} {H : Hp} : ∀ {b : List Tr} {vs : List V}, Ops b → TrsAt K H b vs → DpAll K H vs (b.map Tr.dat)
  | [], vs, _, h => by
    rw [TrsAt] at h
    rw [h]
    exact .nil
  | t :: r, vs, o, h => by
    rw [TrsAt] at h
    obtain ⟨v, us, rfl, a, k⟩ := h
    obtain ⟨w, as, rfl, _⟩ := o t List.mem_cons_self
    rw [TrAt] at a
    obtain ⟨x, rfl, sq⟩ := a
    exact .cons (.tup sq (.cons (.str w) (dp_ints as))) (Ops.dp (fun u m => o u (List.mem_cons_of_mem _ m)) k)
theorem Ops.lay : ∀ {b : List Tr}, Ops b → PyData.canLayAll0 (b.map Tr.dat) = true
  | [], _ => by rw [List.map_nil, PyData.canLayAll0]
  | t :: r, o => by
    obtain ⟨w, as, rfl, hw⟩ := o t List.mem_cons_self
    rw [List.map_cons, PyData.canLayAll0, Ops.lay (fun u m => o u (List.mem_cons_of_mem _ m)), Tr.dat, PyData.canLay0, PyData.canLayAll0, PyData.canLay0, W7_ok hw, lay_ints]
    rfl
theorem Ops.deep : ∀ {b : List Tr}, Ops b → PyData.depthAll (b.map Tr.dat) ≤ 1
  | [], _ => by rw [List.map_nil, PyData.depthAll]; exact Nat.zero_le _
  | t :: r, o => by
    obtain ⟨w, as, rfl, hw⟩ := o t List.mem_cons_self
    have ih := Ops.deep (b := r) (fun u m => o u (List.mem_cons_of_mem _ m))
    rw [List.map_cons, PyData.depthAll, Tr.dat, PyData.depth, PyData.depthAll, PyData.depth, depth_ints]
    omega
theorem Ops.shaped {b : List Tr} (o : Ops b) : SeqAt.shaped (.list (b.map Tr.dat)) = true := by
  unfold SeqAt.shaped
  rw [PyData.canLay0, o.lay, PyData.depth, decide_eq_true (by have := o.deep; omega)]
  rfl
theorem shaped_nil : SeqAt.shaped (.list []) = true := by decide
theorem eqv_nil : ∀ b : List PyData, PyData.eqv (.list b) (.list []) = b.isEmpty
  | [] => by rw [PyData.eqv, PyData.eqvAll]; rfl
  | a :: r => by rw [PyData.eqv, PyData.eqvAll]; rfl
theorem inV2 {w a b : Str} : inV (.str w) [.str a, .str b] = true ↔ (w = a ∨ w = b) := by
  show (a == w || (b == w || false)) = true ↔ _
  rw [Bool.or_false, Bool.or_eq_true, beq_iff_eq, beq_iff_eq]
  constructor
  · rintro (h | h)
    · exact .inl h.symm
    · exact .inr h.symm
  · rintro (h | h)
    · exact .inl h.symm
    · exact .inr h.symm
/-! ### promises of the law's own defs -/
def W9 : List Str := ["set", "copy", "copy", "add", "add", "scale", "swap", "read", "write"]
theorem W9_in : ∀ x ∈ W9, x ∈ W7 := by
  have z : (W9.all fun x => W7.contains x) = true := by decide
  intro x m
  exact List.contains_iff_mem.mp (List.all_eq_true.mp z x m)
def spWords : Sp := fun vs H Q _ => vs = [] ∧ ∀ p, H p = none → Q (.ref p) (upd H p (.lst (W9.map V.str)))
def spItem (K : PySem.W.Frag) : Sp := fun vs H Q _ => ∃ (u ws : Addr) (p n : Int) (wl : List Str), vs = [.ref u, .int p, .int n, .ref ws] ∧ Urn H u ∧ 2 ≤ p ∧ p ≤ 10007 ∧ 1 ≤ n ∧ n ≤ 8 ∧ ws ≠ u ∧ SqL K H ws (wl.map V.str) ∧ wl ≠ [] ∧ wl.length ≤ 1000 ∧ (∀ x ∈ wl, x ∈ W7) ∧
  ∀ w as v H', GoodOp p n w as → (w ∈ wl ∨ w = "set") → TrAt K H' (.op w as) v → Urn H' u → But u H H' → Q v H'
def spBody (K : PySem.W.Frag) (d : Nat) : Sp := fun vs H Q _ => ∃ (u ws rs : Addr) (p n : Int) (wl : List Str) (rl : List Int) (l e : Nat), vs = [.ref u, .int p, .int n, .ref ws, .int (l : Int), .int (e : Int), .ref rs] ∧ Urn H u ∧ 2 ≤ p ∧ p ≤ 10007 ∧ 1 ≤ n ∧ n ≤ 8 ∧ ws ≠ u ∧ SqL K H ws (wl.map V.str) ∧ wl ≠ [] ∧ wl.length ≤ 1000 ∧ (∀ x ∈ wl, x ∈ W7) ∧
  rs ≠ u ∧ SqL K H rs (rl.map V.int) ∧ rl ≠ [] ∧ rl.length ≤ 1000 ∧ l ≤ 1000 ∧ e < d ∧
  ∀ b v H', b.length ≤ l → mades (fun w as => GoodOp p n w as ∧ (w ∈ wl ∨ w = "set")) (fun k => k ∈ rl) b l e → BodyAt K H' b v → Urn H' u → But u H H' → Q v H'
mutual
/-- every body within executes a bounded number of steps -/
def Tr.fine : Tr → Prop
  | .op w _ => w ∈ W7
  | .loop _ b => (exs b).length ≤ 100000 ∧ fines b
def fines : List Tr → Prop
  | [] => True
  | t :: r => t.fine ∧ fines r
end
theorem fines_get : ∀ {b : List Tr} {i : Nat} {t : Tr}, fines b → b[i]? = some t → t.fine
  | [], _, _, _, e => by simp at e
  | t :: r, 0, u, h, e => by
    cases e
    rw [fines] at h
    exact h.1
  | t :: r, i + 1, u, h, e => by
    rw [fines] at h
    exact fines_get (i := i) h.2 e
mutual
theorem Tr.fine_ops : ∀ t : Tr, t.fine → Ops t.ex
  | .op w as, h => by
    rw [Tr.fine] at h
    rw [Tr.ex]
    intro t m
    exact ⟨w, as, List.mem_singleton.mp m, h⟩
  | .loop k b, h => by
    rw [Tr.fine] at h
    rw [Tr.ex]
    intro t m
    obtain ⟨xs, m1, m2⟩ := List.mem_flatten.mp m
    rw [(List.mem_replicate.mp m1).2] at m2
    exact fines_ops b h.2 t m2
theorem fines_ops : ∀ b : List Tr, fines b → Ops (exs b)
  | [], _ => by rw [exs]; intro t m; cases m
  | t :: r, h => by
    rw [fines] at h
    rw [exs]
    intro u m
    rcases List.mem_append.mp m with m | m
    · exact Tr.fine_ops t h.1 u m
    · exact fines_ops r h.2 u m
end
theorem most0 : ∀ d, most d 0 = 1
  | 0 => rfl
  | d + 1 => by
    rw [most]
    show max 1 (3 * (0 * _)) = 1
    rw [Nat.zero_mul]
    rfl
theorem most_pos : ∀ d l, 1 ≤ most d l
  | 0, _ => Nat.le_refl 1
  | d + 1, l => by rw [most]; exact Nat.le_max_left _ _
mutual
theorem Tr.made_fine {G : Str → List Int → Prop} {R : Int → Prop} (hG : ∀ w as, G w as → w ∈ W7) (hR : ∀ k, R k → 0 ≤ k ∧ k ≤ 3) : ∀ (t : Tr) (l d : Nat), max 1 l * most d l ≤ 100000 → t.made G R l d → t.fine
  | .op w as, l, d, _, h => by
    rw [Tr.made] at h
    rw [Tr.fine]
    exact hG w as h
  | .loop k b, l, 0, _, h => by rw [Tr.made] at h; exact h.elim
  | .loop k b, l, d + 1, hb, h => by
    rw [Tr.made] at h
    rw [Tr.fine]
    have h1 : 3 * (l / 2 * most d (l / 2)) ≤ 100000 := by
      have h0 : most (d + 1) l ≤ 100000 := Nat.le_trans (Nat.le_mul_of_pos_left _ (by omega)) hb
      rw [most] at h0
      exact Nat.le_trans (Nat.le_max_right _ _) h0
    have h2 := mades_ex hR b (l / 2) d h.2.2
    have h3 : b.length * most d (l / 2) ≤ l / 2 * most d (l / 2) := Nat.mul_le_mul_right _ h.2.1
    refine ⟨by omega, mades_fine hG hR b (l / 2) d ?_ h.2.2⟩
    by_cases z : l / 2 = 0
    · rw [z, most0]
      decide
    · rw [show max 1 (l / 2) = l / 2 by omega]
      omega
theorem mades_fine {G : Str → List Int → Prop} {R : Int → Prop} (hG : ∀ w as, G w as → w ∈ W7) (hR : ∀ k, R k → 0 ≤ k ∧ k ≤ 3) : ∀ (b : List Tr) (l d : Nat), max 1 l * most d l ≤ 100000 → mades G R b l d → fines b
  | [], _, _, _, _ => by rw [fines]; trivial
  | t :: r, l, d, hl, h => by
    rw [mades] at h
    rw [fines]
    exact ⟨Tr.made_fine hG hR t l d hl h.1, mades_fine hG hR r l d hl h.2⟩
end
theorem mades_big {G : Str → List Int → Prop} {R : Int → Prop} (hR : ∀ k, R k → 0 ≤ k ∧ k ≤ 3) {b : List Tr} {l d : Nat} (hl : b.length ≤ l) (hm : max 1 l * most d l ≤ 100000) (h : mades G R b l d) : (exs b).length ≤ 100000 := by
  have h1 := mades_ex hR b l d h
  have h2 : b.length * most d l ≤ max 1 l * most d l := Nat.mul_le_mul_right _ (by omega)
  omega
theorem most84 : max 1 8 * most 4 8 ≤ 100000 := by decide
def spExec (K : PySem.W.Frag) (d : Nat) : Sp := fun vs H Q _ => ∃ v b, vs = [v] ∧ BodyAt K H b v ∧ okB d b ∧ fines b ∧ (exs b).length ≤ 100000 ∧
  ∀ H' l us, Same H H' → H l = none → H' l = some (.lst us) → TrsAt K H' (exs b) us → Q (.ref l) H'
end Lj
set_option Elab.async false
set_option linter.all false
set_option maxRecDepth 100000
namespace Lj
open PySem PySem.Spec PyProof.Rows L2
theorem iteNN {c A B : Prop} [Decidable c] (h : ¬ c) (a : A) : if (!decide c) = true then A else B := by
  rw [decide_eq_false h]
  exact a
/-! ### repr of lists of numbers -/
/-- a number, None, a truth value, shown in a few signs -/
def Leaf (d : PyData) : Prop := d.showable = true ∧ d.hasDict = false ∧ d.depth = 0 ∧ d.shown.length ≤ 1921
theorem leaf_int {i : Int} (h : i.natAbs.log2 < 1920) : Leaf (.int i) := ⟨by rw [PyData.showable]; exact decide_eq_true h, by rw [PyData.hasDict], by rw [PyData.depth], by rw [PyData.shown]; exact int_text_len_1921 h⟩
theorem leaf_none : Leaf .none := ⟨by rw [PyData.showable], by rw [PyData.hasDict], by rw [PyData.depth], by rw [PyData.shown]; decide⟩
theorem leaf_all : ∀ {ds : List PyData}, (∀ d ∈ ds, Leaf d) → PyData.showableAll ds = true ∧ PyData.hasDictAll ds = false ∧ PyData.depthAll ds = 0 ∧ ((PyData.shownAll ds).map (·.length)).sum ≤ 1921 * ds.length ∧ (PyData.shownAll ds).length = ds.length
  | [], _ => ⟨by rw [PyData.showableAll], by rw [PyData.hasDictAll], by rw [PyData.depthAll], by rw [PyData.shownAll]; exact Nat.zero_le _, by rw [PyData.shownAll]; rfl⟩
  | d :: r, h => by
    obtain ⟨a1, a2, a3, a4⟩ := h d List.mem_cons_self
    obtain ⟨b1, b2, b3, b4, b5⟩ := leaf_all (ds := r) fun x m => h x (List.mem_cons_of_mem _ m)
    refine ⟨by rw [PyData.showableAll, a1, b1]; rfl, by rw [PyData.hasDictAll, a2, b2]; rfl, by rw [PyData.depthAll, a3, b3]; rfl, ?_, by rw [PyData.shownAll, List.length_cons, b5, List.length_cons]⟩
    rw [PyData.shownAll, List.map_cons, List.sum_cons, List.length_cons]
    omega
theorem leaf_list {ds : List PyData} (h : ∀ d ∈ ds, Leaf d) (n : ds.length ≤ 8000) : (PyData.list ds).showable = true ∧ (PyData.list ds).hasDict = false ∧ (PyData.list ds).depth ≤ 64 ∧ (PyData.list ds).shown.length ≤ sizeLine := by
  obtain ⟨b1, b2, b3, b4, b5⟩ := leaf_all h
  refine ⟨by rw [PyData.showable]; exact b1, by rw [PyData.hasDict]; exact b2, by rw [PyData.depth, b3]; decide, ?_⟩
  rw [PyData.shown, sizeLine_eq]
  have := PySem.listText_len_le (PyData.shownAll ds)
  omega
theorem dp_int_list {K : PySem.W.Frag} {H : Hp} {a : Addr} {ns : List Int} (h : SqL K H a (ns.map V.int)) : Dp K H (.ref a) (.list (ns.map PyData.int)) := .lst h (dp_ints ns)
theorem log_of {i : Int} {k : Nat} (h : i.natAbs < 2 ^ k) (k0 : 0 < k) (k1 : k ≤ 1920) : i.natAbs.log2 < 1920 := Nat.lt_of_lt_of_le (PySem.Flt.log2_lt_of k0 h) k1
theorem leaf_ints {ns : List Int} (h : ∀ n ∈ ns, n.natAbs < 2 ^ 1000) : ∀ d ∈ ns.map PyData.int, Leaf d := by
  intro d m
  obtain ⟨n, hn, rfl⟩ := List.mem_map.mp m
  exact leaf_int (log_of (h n hn) (by decide) (by decide))
/-! ### bounds -/
def top : Nat → Int
  | 0 => 1
  | d + 1 => 10 ^ 18 * (1000 * top d)
theorem top_pos : ∀ d, 1 ≤ top d
  | 0 => by decide
  | d + 1 => by
    have := top_pos d
    rw [top]
    omega
mutual
theorem Tr.len_bd : ∀ (t : Tr) (d : Nat), t.wf d → 0 ≤ t.len ∧ t.len ≤ top d
  | .op w as, d, _ => by
    rw [Tr.len]
    exact ⟨by decide, top_pos d⟩
  | .loop k b, 0, h => by rw [Tr.wf] at h; exact h.elim
  | .loop k b, d + 1, h => by
    rw [Tr.wf] at h
    obtain ⟨i0, i1⟩ := lens_bd b d h.2.2.2
    have tp := top_pos d
    have i2 : lens b ≤ 1000 * top d := Int.le_trans i1 (Int.mul_le_mul_of_nonneg_right (by omega) (by omega))
    rw [Tr.len, top]
    exact ⟨Int.mul_nonneg h.1 i0, Int.mul_le_mul h.2.1 i2 i0 (by decide)⟩
theorem lens_bd : ∀ (b : List Tr) (d : Nat), wfs b d → 0 ≤ lens b ∧ lens b ≤ (b.length : Int) * top d
  | [], d, _ => by rw [lens]; exact ⟨by decide, by simp⟩
  | t :: r, d, h => by
    rw [wfs] at h
    obtain ⟨a0, a1⟩ := Tr.len_bd t d h.1
    obtain ⟨b0, b1⟩ := lens_bd r d h.2
    rw [lens, List.length_cons]
    refine ⟨by omega, ?_⟩
    rw [show ((r.length + 1 : Nat) : Int) = (r.length : Int) + 1 from rfl, Int.add_mul, Int.one_mul]
    omega
end
mutual
theorem Tr.cnt_bd (z : Str) : ∀ (t : Tr) (d : Nat), t.wf d → 0 ≤ t.cnt z ∧ t.cnt z ≤ t.len
  | .op w as, d, _ => by
    rw [Tr.len, Tr.cnt]
    split <;> exact ⟨by decide, by decide⟩
  | .loop k b, 0, h => by rw [Tr.wf] at h; exact h.elim
  | .loop k b, d + 1, h => by
    rw [Tr.wf] at h
    obtain ⟨i0, i1⟩ := cnts_bd z b d h.2.2.2
    rw [Tr.len, Tr.cnt]
    exact ⟨Int.mul_nonneg h.1 i0, Int.mul_le_mul_of_nonneg_left i1 h.1⟩
theorem cnts_bd (z : Str) : ∀ (b : List Tr) (d : Nat), wfs b d → 0 ≤ cnts z b ∧ cnts z b ≤ lens b
  | [], d, _ => by rw [lens, cnts]; exact ⟨by decide, by decide⟩
  | t :: r, d, h => by
    rw [wfs] at h
    obtain ⟨a0, a1⟩ := Tr.cnt_bd z t d h.1
    obtain ⟨b0, b1⟩ := cnts_bd z r d h.2
    rw [lens, cnts]
    omega
end
mutual
theorem Tr.inn_bd : ∀ (t : Tr) (d : Nat), t.wf d → 0 ≤ t.inn ∧ t.inn ≤ top d
  | .op w as, d, _ => by
    rw [Tr.inn]
    have := top_pos d
    omega
  | .loop k b, 0, h => by rw [Tr.wf] at h; exact h.elim
  | .loop k b, d + 1, h => by
    rw [Tr.wf] at h
    obtain ⟨i0, i1⟩ := inns_bd b d h.2.2.2
    have tp := top_pos d
    have i2 : inns b ≤ 1000 * top d := Int.le_trans i1 (Int.mul_le_mul_of_nonneg_right (by omega) (by omega))
    rw [Tr.inn, top]
    omega
theorem inns_bd : ∀ (b : List Tr) (d : Nat), wfs b d → 0 ≤ inns b ∧ inns b ≤ (b.length : Int) * top d
  | [], d, _ => by rw [inns]; exact ⟨by decide, by simp⟩
  | t :: r, d, h => by
    rw [wfs] at h
    obtain ⟨a0, a1⟩ := Tr.inn_bd t d h.1
    obtain ⟨b0, b1⟩ := inns_bd r d h.2
    rw [inns, List.length_cons]
    refine ⟨by omega, ?_⟩
    rw [show ((r.length + 1 : Nat) : Int) = (r.length : Int) + 1 from rfl, Int.add_mul, Int.one_mul]
    omega
end
mutual
theorem Tr.dep_bd : ∀ (t : Tr) (d : Nat), t.wf d → t.dep ≤ d
  | .op w as, d, _ => by rw [Tr.dep]; omega
  | .loop k b, 0, h => by rw [Tr.wf] at h; exact h.elim
  | .loop k b, d + 1, h => by
    rw [Tr.wf] at h
    have := deps_bd b d h.2.2.2
    rw [Tr.dep]
    omega
theorem deps_bd : ∀ (b : List Tr) (d : Nat), wfs b d → deps b ≤ d
  | [], d, _ => by rw [deps]; omega
  | t :: r, d, h => by
    rw [wfs] at h
    have h1 := Tr.dep_bd t d h.1
    have h2 := deps_bd r d h.2
    rw [deps]
    split <;> omega
end
theorem lens_log {b : List Tr} {d : Nat} (h : okB (d + 1) b) (hd : d ≤ 6) : (lens b).natAbs < 2 ^ 1000 := by
  obtain ⟨h0, h1⟩ := lens_bd b d h.1
  have tp := top_pos d
  have h2 : lens b ≤ 1000 * top d := Int.le_trans h1 (Int.mul_le_mul_of_nonneg_right (by have := h.2; omega) (by omega))
  have h3 : 1000 * top d < 2 ^ 1000 := by
    have : d = 0 ∨ d = 1 ∨ d = 2 ∨ d = 3 ∨ d = 4 ∨ d = 5 ∨ d = 6 := by omega
    rcases this with rfl | rfl | rfl | rfl | rfl | rfl | rfl <;> decide +kernel
  omega
/-! ### once, and with great rounds -/
mutual
def Tr.once : Tr → Tr
  | .op w as => .op w as
  | .loop _ b => .loop 1 (onces b)
def onces : List Tr → List Tr
  | [] => []
  | t :: r => t.once :: onces r
end
theorem onces_map : ∀ b : List Tr, onces b = b.map Tr.once
  | [] => by rw [onces]; rfl
  | t :: r => by rw [onces, onces_map r]; rfl
mutual
theorem Tr.made_once {G : Str → List Int → Prop} {R : Int → Prop} : ∀ (t : Tr) (l d : Nat), t.made G R l d → t.once.made G (fun k => k = 1) l d
  | .op w as, l, d, h => by
    rw [Tr.made] at h
    rw [Tr.once, Tr.made]
    exact h
  | .loop k b, l, 0, h => by rw [Tr.made] at h; exact h.elim
  | .loop k b, l, d + 1, h => by
    rw [Tr.made] at h
    rw [Tr.once, Tr.made]
    exact ⟨rfl, by rw [onces_map, List.length_map]; exact h.2.1, mades_once b (l / 2) d h.2.2⟩
theorem mades_once {G : Str → List Int → Prop} {R : Int → Prop} : ∀ (b : List Tr) (l d : Nat), mades G R b l d → mades G (fun k => k = 1) (onces b) l d
  | [], l, d, _ => by rw [onces]; exact mades_nil
  | t :: r, l, d, h => by
    rw [mades] at h
    rw [onces, mades]
    exact ⟨Tr.made_once t l d h.1, mades_once r l d h.2⟩
end
/-- no step of the word z, were each loop executed once -/
def NoW (z : Str) (b : List Tr) : Prop := z ∉ (exs (onces b)).map Tr.word
mutual
theorem Tr.noW (z : Str) : ∀ t : Tr, z ∉ (t.once.ex).map Tr.word → t.cnt z = 0
  | .op w as, h => by
    rw [Tr.once, Tr.ex] at h
    rw [Tr.cnt, if_neg]
    intro e
    exact h (by subst e; exact List.mem_singleton.mpr rfl)
  | .loop k b, h => by
    rw [Tr.once, Tr.ex] at h
    rw [Tr.cnt, noWs z b (by
      intro m
      refine h ?_
      show z ∈ (List.flatten [exs (onces b)]).map Tr.word
      rw [List.flatten_cons, List.flatten_nil, List.append_nil]
      exact m), Int.mul_zero]
theorem noWs (z : Str) : ∀ b : List Tr, NoW z b → cnts z b = 0
  | [], _ => by rw [cnts]
  | t :: r, h => by
    unfold NoW at h
    rw [onces, exs, List.map_append, List.mem_append] at h
    rw [cnts, Tr.noW z t (fun m => h (.inl m)), noWs z r (fun m => h (.inr m))]
    rfl
end
mutual
/-- the same but for rounds, and these only where nothing is read or written -/
def Tr.gr : Tr → Tr → Prop
  | .op w as, t => t = .op w as
  | .loop k b, t => ∃ k' b', t = .loop k' b' ∧ 0 ≤ k' ∧ k' ≤ 10 ^ 18 ∧ grs b b' ∧ (k' = k ∨ (NoW "read" b' ∧ NoW "write" b'))
def grs : List Tr → List Tr → Prop
  | [], g => g = []
  | t :: r, g => ∃ t' r', g = t' :: r' ∧ t.gr t' ∧ grs r r'
end
theorem grs_snoc : ∀ {b g : List Tr} {t t' : Tr}, grs b g → t.gr t' → grs (b ++ [t]) (g ++ [t'])
  | [], g, t, t', h, k => by
    rw [grs] at h
    rw [h]
    show grs [t] [t']
    rw [grs]
    exact ⟨t', [], rfl, k, by rw [grs]⟩
  | a :: r, g, t, t', h, k => by
    rw [grs] at h
    obtain ⟨a', r', rfl, h1, h2⟩ := h
    show grs (a :: (r ++ [t])) (a' :: (r' ++ [t']))
    rw [grs]
    exact ⟨a', _, rfl, h1, grs_snoc h2 k⟩
mutual
theorem Tr.gr_all : ∀ (t t' : Tr), t.gr t' → t'.once = t.once ∧ t'.inn = t.inn ∧ t'.dep = t.dep ∧ (∀ d, t.wf d → t'.wf d) ∧ (∀ G R l d, t.made G R l d → t'.made G (fun k => R k ∨ (0 ≤ k ∧ k ≤ 10 ^ 18)) l d) ∧ ((t.cnt "read" = t'.cnt "read") ∧ (t.cnt "write" = t'.cnt "write"))
  | .op w as, t', h => by
    rw [Tr.gr] at h
    subst h
    refine ⟨rfl, rfl, rfl, fun _ h => h, fun G R l d h => ?_, rfl, rfl⟩
    rw [Tr.made] at h ⊢
    exact h
  | .loop k b, t', h => by
    rw [Tr.gr] at h
    obtain ⟨k', b', rfl, k0, k1, hg, hk⟩ := h
    obtain ⟨e1, e2, e3, e4, e5, e6, e7⟩ := grs_all b b' hg
    refine ⟨by rw [Tr.once, Tr.once, e1], by rw [Tr.inn, Tr.inn, e2, e7.1], by rw [Tr.dep, Tr.dep, e3], fun d h => ?_, fun G R l d h => ?_, ?_⟩
    · cases d with
      | zero => rw [Tr.wf] at h; exact h.elim
      | succ d =>
        rw [Tr.wf] at h ⊢
        exact ⟨k0, k1, by rw [e7.1]; exact h.2.2.1, e4 d h.2.2.2⟩
    · cases d with
      | zero => rw [Tr.made] at h; exact h.elim
      | succ d =>
        rw [Tr.made] at h ⊢
        exact ⟨.inr ⟨k0, k1⟩, by rw [e7.1]; exact h.2.1, e5 G R _ _ h.2.2⟩
    · rw [Tr.cnt, Tr.cnt, Tr.cnt, Tr.cnt]
      rcases hk with rfl | ⟨n1, n2⟩
      · rw [e6.1, e6.2]
        exact ⟨rfl, rfl⟩
      · rw [e6.1, e6.2, noWs _ b' n1, noWs _ b' n2, Int.mul_zero, Int.mul_zero]
        exact ⟨rfl, rfl⟩
theorem grs_all : ∀ (b g : List Tr), grs b g → onces g = onces b ∧ inns g = inns b ∧ deps g = deps b ∧ (∀ d, wfs b d → wfs g d) ∧ (∀ G R l d, mades G R b l d → mades G (fun k => R k ∨ (0 ≤ k ∧ k ≤ 10 ^ 18)) g l d) ∧ ((cnts "read" b = cnts "read" g) ∧ (cnts "write" b = cnts "write" g)) ∧ (g.length = b.length ∧ True)
  | [], g, h => by
    rw [grs] at h
    subst h
    exact ⟨rfl, rfl, rfl, fun _ h => h, fun _ _ _ _ _ => mades_nil, ⟨rfl, rfl⟩, rfl, trivial⟩
  | t :: r, g, h => by
    rw [grs] at h
    obtain ⟨t', r', rfl, h1, h2⟩ := h
    obtain ⟨a1, a2, a3, a4, a5, a6⟩ := Tr.gr_all t t' h1
    obtain ⟨e1, e2, e3, e4, e5, e6, e7⟩ := grs_all r r' h2
    refine ⟨by rw [onces, onces, a1, e1], by rw [inns, inns, a2, e2], by rw [deps, deps, a3, e3], fun d h => ?_, fun G R l d h => ?_, ⟨by rw [cnts, cnts, a6.1, e6.1], by rw [cnts, cnts, a6.2, e6.2]⟩, by rw [List.length_cons, List.length_cons, e7.1], trivial⟩
    · rw [wfs] at h ⊢
      exact ⟨a4 d h.1, e4 d h.2⟩
    · rw [mades] at h ⊢
      exact ⟨a5 G R l d h.1, e5 G R l d h.2⟩
end
theorem shaped_ints (ns : List Int) : SeqAt.shaped (.list (ns.map PyData.int)) = true := by
  unfold SeqAt.shaped
  rw [PyData.canLay0, lay_ints, PyData.depth, depth_ints]
  rfl
theorem same_but {H H1 H2 : Hp} {u : Addr} (s : Same H H1) (n : H u = none) (b : But u H1 H2) : Same H H2 := fun x o e => b x o (ne_of_none e n) (s x o e)
/-- one parameter, given by its name -/
theorem kb1 {K : PySem.W.Frag} {x p : Str} {st : Stmt} {f : Addr} {fd : FuncData} (F : Fun K x x st f fd)
    (h : ∀ (kV doc pm : Value) (an : Option Addr) (cdv ct u : Value), bindArgs (PySem.W.fnOf x x (defArgs st) (defBody st) (defScope st) .none kV doc pm an cdv ct) ⟨[], [(p, u)]⟩ = pure [(p, u)]) :
    KBinds K fd [p] [p] (fun us ws => if us.isEmpty then ws else []) (fun us ws => if us.isEmpty then ws else []) := by
  obtain ⟨oc, od, kV, doc, pm, an, cdv, ct, osl, rfl, lk, hcd⟩ := F.ex
  refine ⟨fun s us ws _ hl => ?_, fun {vs us zs ws} r rz => ?_⟩
  · cases us with
    | cons u r =>
      rw [show (u :: r).isEmpty = false from rfl, if_neg Bool.false_ne_true] at hl
      cases hl
    | nil =>
      match ws, hl with
      | [_], _ => exact .of_eq (h ..)
  · cases r with
    | nil => exact rz
    | cons _ _ => exact .nil
end Lj
namespace Lj
mutual
theorem Tr.wf_up : ∀ (t : Tr) (n : Nat), t.wf n → t.wf (n + 1)
  | .op w as, n, h => by
    rw [Tr.wf] at h ⊢
    exact h
  | .loop k b, 0, h => by rw [Tr.wf] at h; exact h.elim
  | .loop k b, n + 1, h => by
    rw [Tr.wf] at h ⊢
    exact ⟨h.1, h.2.1, h.2.2.1, wfs_up' b n h.2.2.2⟩
theorem wfs_up' : ∀ (b : List Tr) (n : Nat), wfs b n → wfs b (n + 1)
  | [], n, _ => by rw [wfs]; trivial
  | t :: r, n, h => by
    rw [wfs] at h ⊢
    exact ⟨Tr.wf_up t n h.1, wfs_up' r n h.2⟩
end
theorem wfs_up {b : List Tr} {n : Nat} (h : wfs b n) : wfs b (n + 1) := wfs_up' b n h
end Lj
set_option Elab.async false
set_option linter.all false
set_option maxRecDepth 100000
namespace Lj
open PySem PySem.Spec PyProof.Rows L2
/-! ### data of any kind, dicts too -/
def kD : Key → PyData
  | .inl i => .int i
  | .inr x => .str x
mutual
inductive Dd (K : PySem.W.Frag) (H : Hp) : V → PyData → Prop
  | non : Dd K H .non .none
  | bl (b : Bool) : Dd K H (.bl b) (.bool b)
  | int (i : Int) : Dd K H (.int i) (.int i)
  | str (x : Str) : Dd K H (.str x) (.str x)
  | lst {a : Addr} {xs : List V} {ds : List PyData} (q : SqL K H a xs) (r : DdAll K H xs ds) : Dd K H (.ref a) (.list ds)
  | tup {a : Addr} {xs : List V} {ds : List PyData} (q : SqT K H a xs) (r : DdAll K H xs ds) : Dd K H (.ref a) (.tuple ds)
  | dct {a : Addr} {kvs : List (Key × V)} {kds : List (PyData × PyData)} (q : H a = some (.dK kvs)) (e : kvs.map (fun kv => kD kv.1) = kds.map (·.1)) (r : DdAll K H (kvs.map (·.2)) (kds.map (·.2))) : Dd K H (.ref a) (.dict kds)
inductive DdAll (K : PySem.W.Frag) (H : Hp) : List V → List PyData → Prop
  | nil : DdAll K H [] []
  | cons {v : V} {vs : List V} {d : PyData} {ds : List PyData} (h : Dd K H v d) (t : DdAll K H vs ds) : DdAll K H (v :: vs) (d :: ds)
end
section
variable {X : Cx} {pins : List (Addr × Obj)} {σ : L2.St} {H : Hp} {s : Shared}
/-- the keys of a dict, as texts -/
theorem keys_show {P : Program} {w : World} {h : Heap} {n : Nat} : ∀ {es : List DictEntry} {vs : List (Key × Value)} {ks : List PyData}, Pairs (mixKind P w) es vs → vs.map (fun kv => kD kv.1) = ks → PyData.showableAll ks = true → (∀ t ∈ PyData.shownAll ks, t.length ≤ sizeLine) →
    (∃ as, ReadsAll h (es.map (·.key)) ks as) ∧ ReprAllK P w [] h n (es.map (·.key)) (PyData.shownAll ks) := by
  intro es vs ks hp
  induction hp generalizing ks with
  | nil =>
    rintro rfl _ _
    exact ⟨⟨_, .nil⟩, .nil⟩
  | @cons e kv es kvs hk hv _ ih =>
    rintro rfl hs hz
    simp only [List.map_cons, PyData.showableAll, Bool.and_eq_true] at hs
    obtain ⟨⟨as, i1⟩, i2⟩ := ih rfl hs.2 fun t m => hz t (by simp only [List.map_cons, PyData.shownAll]; exact List.mem_cons_of_mem _ m)
    have hz0 := hz (kD kv.1).shown (by simp only [List.map_cons, PyData.shownAll]; exact List.mem_cons_self ..)
    rcases keyIs_shape hk with ⟨i, t, e1, e2⟩ | ⟨x, t, e1, e2⟩
    · rw [e1] at hs hz0
      refine ⟨⟨[] ++ as, ?_⟩, ?_⟩
      · simp only [List.map_cons, e1, e2]
        exact .cons (.int i t) i1
      · simp only [List.map_cons, e1, e2, PyData.shownAll]
        exact .cons (.of_is (ReprIs.int t (of_decide_eq_true hs.1)) _ _ _) i2
    · rw [e1] at hs hz0
      refine ⟨⟨[] ++ as, ?_⟩, ?_⟩
      · simp only [List.map_cons, e1, e2]
        exact .cons (.str x t) i1
      · simp only [List.map_cons, e1, e2, PyData.shownAll]
        exact .cons (.of_is (ReprIs.str x t hz0) _ _ _) i2
theorem vals_of_pairs {P : Program} {w : World} : ∀ {es : List DictEntry} {vs : List (Key × Value)} {kvs : List (Key × V)}, Pairs (mixKind P w) es vs → KV kvs vs → Vals (kvs.map (·.2)) (es.map (·.val)) ∧ vs.map (fun kv => kD kv.1) = kvs.map (fun kv => kD kv.1) := by
  intro es vs kvs hp
  induction hp generalizing kvs with
  | nil =>
    intro r
    cases r
    exact ⟨.nil, rfl⟩
  | @cons e kv es vs hk hv _ ih =>
    intro r
    cases r with
    | @cons p _ ps _ h t =>
      obtain ⟨i1, i2⟩ := ih t
      exact ⟨.cons (by show RelV p.2 e.val; rw [hv]; exact h.2) i1, by simp only [List.map_cons, i2, h.1]⟩
/-- what is known of a thing to be shown -/
def Sho (P : Program) (w : World) (h : Heap) (u : Value) (d : PyData) : Prop := (∃ as, Reads h u d as) ∧ ∃ bs, ReadAtMost h d.depth bs ∧ ReprK P w bs h d.depth u d.shown
def ShoAll (P : Program) (w : World) (h : Heap) (us : List Value) (ds : List PyData) : Prop := (∃ as, ReadsAll h us ds as) ∧ ∃ bs, ReadAtMost h (PyData.depthAll ds) bs ∧ ReprAllK P w bs h (PyData.depthAll ds) us (PyData.shownAll ds)
theorem no_at {h : Heap} {n : Nat} : ReadAtMost h n [] := fun _ m => nomatch m
mutual
theorem Dd.sho (I : Inv X pins σ H s) : ∀ {v : V} {d : PyData} {u : Value}, Dd X.K H v d → RelV v u → d.showable = true → d.shown.length ≤ sizeLine → Sho X.prog X.w s.heap u d
  | _, _, _, .non, r, _, _ => by
    cases r
    exact ⟨⟨_, .none⟩, [], no_at, .of_is ReprIs.none _ _ _⟩
  | _, _, _, .bl b, r, _, _ => by
    cases r
    exact ⟨⟨_, .bool b⟩, [], no_at, .of_is (ReprIs.bool b) _ _ _⟩
  | _, _, _, .int i, r, hs, _ => by
    obtain ⟨t, rfl⟩ := r
    exact ⟨⟨_, .int i t⟩, [], no_at, .of_is (ReprIs.int t (of_decide_eq_true hs)) _ _ _⟩
  | _, _, _, .str x, r, _, hz => by
    obtain ⟨t, rfl⟩ := r
    exact ⟨⟨_, .str x t⟩, [], no_at, .of_is (ReprIs.str x t hz) _ _ _⟩
  | _, _, _, .lst (a := a) (xs := xs) (ds := ds) q rr, r, hs, hz => by
    cases r
    obtain ⟨its, rv, ⟨o, n, ho, hc, _, hd⟩, _⟩ := I.list q
    obtain ⟨⟨as, rd⟩, bs, rb, rk⟩ := Dd.shoAll I rr rv hs fun t m => Nat.le_trans (listText_mem_le m) hz
    have top : Reads s.heap (.ref a) (.list ds) (a :: as) := .list ho hc hd rd
    refine ⟨⟨_, top⟩, a :: bs, ReadAtMost.cons top (Nat.le_succ _) rb, ?_⟩
    cases its with
    | nil =>
      cases rd
      exact ReprK.listEmpty ho hc hd
    | cons x l => exact ReprK.list ho hc hd (not_mem_of_deeper top (Nat.lt_succ_self _) rb) rk.length_eq fun i y e => rk.item i y (by rw [List.getElem?_toArray] at e; exact e)
  | _, _, _, .tup (a := a) (xs := xs) (ds := ds) q rr, r, hs, hz => by
    cases r
    obtain ⟨its, rv, ⟨o, ho, hc, n, hd⟩, _⟩ := I.tuple q
    obtain ⟨⟨as, rd⟩, bs, rb, rk⟩ := Dd.shoAll I rr rv hs fun t m => Nat.le_trans (tupleText_mem_le m) hz
    have top : Reads s.heap (.ref a) (.tuple ds) as := .tuple ho hc hd rd
    exact ⟨⟨_, top⟩, a :: bs, ReadAtMost.cons top (Nat.le_succ _) rb, ReprK.tuple ho hc hd (not_mem_of_deeper top (Nat.lt_succ_self _) rb) rk⟩
  | _, _, _, .dct (a := a) (kvs := kvs) (kds := kds) q e rr, r, hs, hz => by
    cases r
    obtain ⟨_, hsys, vs, kv, o, es, ep, ho, hc, hd, _, hp, _⟩ := (show ObjOk X.prog X.w H s.heap a (.dK kvs) from I.hok a _ q)
    obtain ⟨s1, s2⟩ := PyData.showableKv_split kds hs
    obtain ⟨v1, v2⟩ := vals_of_pairs hp kv
    obtain ⟨⟨as, rd⟩, bs, rb, rk⟩ := Dd.shoAll I rr v1 s2 fun t m => by
      obtain ⟨p, mp, hl⟩ := PyData.shownKv_val_le kds t m
      exact Nat.le_trans hl (Nat.le_trans (dictText_mem_le mp) hz)
    obtain ⟨⟨as2, kr⟩, kk⟩ := keys_show (h := s.heap) (n := PyData.depthKv kds) hp (v2.trans e) s1 fun t m => by
      obtain ⟨p, mp, hl⟩ := PyData.shownKv_key_le kds t m
      exact Nat.le_trans hl (Nat.le_trans (dictText_mem_le mp) hz)
    have top : Reads s.heap (.ref a) (.dict kds) (a :: as2 ++ as) := .dict ho hc.1 hd kr rd
    have rb' := rb.mono (PyData.depthAll_vals_le kds)
    refine ⟨⟨_, top⟩, a :: bs, ReadAtMost.cons top (Nat.le_succ _) rb', ?_⟩
    have nm : a ∉ bs := not_mem_of_deeper top (Nat.lt_succ_self _) rb'
    have en := ReprEntriesK.of_two es.toList _ _ (kk.more_le (fun b (hb : b ∈ ([] : List Addr)) => absurd hb List.not_mem_nil) (Nat.le_refl _)) (rk.more_le (fun b hb => hb) (PyData.depthAll_vals_le kds))
    rw [← PyData.shownKv_eq] at en
    exact ReprK.dict ho hc.1 hd hsys nm en
theorem Dd.shoAll (I : Inv X pins σ H s) : ∀ {vs : List V} {ds : List PyData} {us : List Value}, DdAll X.K H vs ds → Vals vs us → PyData.showableAll ds = true → (∀ t ∈ PyData.shownAll ds, t.length ≤ sizeLine) → ShoAll X.prog X.w s.heap us ds
  | _, _, _, .nil, r, _, _ => by
    cases r
    exact ⟨⟨_, .nil⟩, [], no_at, .nil⟩
  | _, _, _, .cons (d := d) (ds := ds) h t, .cons r1 r2, hs, hz => by
    have hs' : (d.showable && PyData.showableAll ds) = true := hs
    rw [Bool.and_eq_true] at hs'
    obtain ⟨⟨as, a1⟩, bs, b1, k1⟩ := Dd.sho I h r1 hs'.1 (hz _ (List.mem_cons_self ..))
    obtain ⟨⟨as2, a2⟩, bs2, b2, k2⟩ := Dd.shoAll I t r2 hs'.2 fun t m => hz t (List.mem_cons_of_mem _ m)
    refine ⟨⟨_, .cons a1 a2⟩, bs ++ bs2, (b1.mono (Nat.le_max_left _ _)).append (b2.mono (Nat.le_max_right _ _)), .cons ?_ ?_⟩
    · exact (k1.more fun b m => List.mem_append_left _ m).level_le (Nat.le_max_left _ _)
    · exact k2.more_le (fun b m => List.mem_append_right _ m) (Nat.le_max_right _ _)
end
end
/-- repr of data of any kind -/
theorem repr_any {X : Cx} {pins : List (Addr × Obj)} {σ : L2.St} {H : Hp} {s : Shared} {v : V} {u : Value} {d : PyData} {A : Around} {E : Value → Shared → Prop} {Q : Value → Shared → Prop} (I : Inv X pins σ H s) (dd : Dd X.K H v d) (r : RelV v u) (sh : d.showable = true) (hg : A.guards = some []) (hu : A.units + (d.depth + 1) < cLine) (sz : d.shown.length ≤ sizeLine)
    (hQ : ∀ h' t tk, (∀ b o, s.heap.get? b = some o → h'.get? b = some o) → Q (.str d.shown t) { s with heap := h', toks := tk }) : wpAny (model X.prog X.w) A (call (.builtin "repr") [u]) Q E s := by
  have no : ∀ b o, s.heap.get? b = some o → s.heap.get? b = some o := fun _ _ e => e
  cases dd with
  | non =>
    cases r
    exact _root_.PySem.P.repr_of_none (hQ s.heap s.toks (s.toks + 1) no)
  | bl b =>
    cases r
    refine _root_.PySem.P.repr_of_bool ?_
    cases b
    · exact hQ s.heap s.toks (s.toks + 1) no
    · exact hQ s.heap s.toks (s.toks + 1) no
  | int i =>
    obtain ⟨t, rfl⟩ := r
    exact _root_.PySem.P.repr_of_int (of_decide_eq_true sh) (hQ s.heap s.toks (s.toks + 1) no)
  | str x =>
    obtain ⟨t, rfl⟩ := r
    exact _root_.PySem.P.repr_of_str (hQ s.heap s.toks (s.toks + 1) no) sz
  | @lst a xs ds q rr =>
    cases r
    obtain ⟨its, rv, ⟨o, n, ho, hc, _, hd⟩, _⟩ := I.list q
    obtain ⟨⟨as, rd⟩, bs, rb, rk⟩ := Dd.shoAll I rr rv sh fun t m => Nat.le_trans (listText_mem_le m) sz
    have top : Reads s.heap (.ref a) (.list ds) (a :: as) := .list ho hc hd rd
    have nm := not_mem_of_deeper top (Nat.lt_succ_self _) rb
    have hu' : A.units + (PyData.depthAll ds + 1 + 1) < cLine := hu
    refine call_repr_slot (T := "list") (by omega) ⟨o, ho, hc⟩ F.slot_list_repr.toG ?_
    cases its with
    | nil =>
      cases rd
      exact call_list_repr_empty ⟨o, ho, hc⟩ ho hd ⟨_, _, rfl, hQ s.heap _ _ no⟩
    | cons x l => exact call_list_reprK (A := A.in1) ho hc hd nm rk.length_eq (fun i y e => rk.item i y (by rw [List.getElem?_toArray] at e; exact e)) hg (fun b _ => Clear.nil b) (by show A.units + 1 + _ < cLine; omega) no (fun h' t tk k => ⟨_, _, rfl, hQ h' t tk k⟩) sz
  | @tup a xs ds q rr =>
    cases r
    obtain ⟨its, rv, ⟨o, ho, hc, n, hd⟩, _⟩ := I.tuple q
    obtain ⟨⟨as, rd⟩, bs, rb, rk⟩ := Dd.shoAll I rr rv sh fun t m => Nat.le_trans (tupleText_mem_le m) sz
    have top : Reads s.heap (.ref a) (.tuple ds) as := .tuple ho hc hd rd
    have nm := not_mem_of_deeper top (Nat.lt_succ_self _) rb
    have hu' : A.units + (PyData.depthAll ds + 1 + 1) < cLine := hu
    exact call_repr_slot (T := "tuple") (by omega) ⟨o, ho, hc⟩ F.slot_tuple_repr (call_tuple_reprK (A := A.in1) ho hc hd nm rk hg (fun b _ => Clear.nil b) (by show A.units + 1 + _ < cLine; omega) no (fun h' t tk k => ⟨_, _, rfl, hQ h' t tk k⟩) sz)
  | @dct a kvs kds q e rr =>
    cases r
    obtain ⟨_, hsys, vs, kv, o, es, ep, ho, hc, hd, _, hp, _⟩ := (show ObjOk X.prog X.w H s.heap a (.dK kvs) from I.hok a _ q)
    obtain ⟨s1, s2⟩ := PyData.showableKv_split kds sh
    obtain ⟨v1, v2⟩ := vals_of_pairs hp kv
    obtain ⟨⟨as, rd⟩, bs, rb, rk⟩ := Dd.shoAll I rr v1 s2 fun t m => by
      obtain ⟨p, mp, hl⟩ := PyData.shownKv_val_le kds t m
      exact Nat.le_trans hl (Nat.le_trans (dictText_mem_le mp) sz)
    obtain ⟨⟨as2, kr⟩, kk⟩ := keys_show (h := s.heap) (n := PyData.depthKv kds) hp (v2.trans e) s1 fun t m => by
      obtain ⟨p, mp, hl⟩ := PyData.shownKv_key_le kds t m
      exact Nat.le_trans hl (Nat.le_trans (dictText_mem_le mp) sz)
    have top : Reads s.heap (.ref a) (.dict kds) (a :: as2 ++ as) := .dict ho hc.1 hd kr rd
    have nm : a ∉ bs := not_mem_of_deeper top (Nat.lt_succ_self _) (rb.mono (PyData.depthAll_vals_le kds))
    have en := ReprEntriesK.of_two es.toList _ _ (kk.more_le (fun b (hb : b ∈ ([] : List Addr)) => absurd hb List.not_mem_nil) (Nat.le_refl _)) (rk.more_le (fun b hb => hb) (PyData.depthAll_vals_le kds))
    rw [← PyData.shownKv_eq] at en
    have hu' : A.units + (PyData.depthKv kds + 1 + 1) < cLine := hu
    exact call_repr_slot (T := "dict") (by omega) ⟨o, ho, hc.1⟩ F.slot_dict_repr (call_dict_reprK (A := A.in1) ho hc.1 hd hsys nm en hg (fun b _ => Clear.nil b) (by show A.units + 1 + _ < cLine; omega) no (fun h' t tk k => ⟨_, _, rfl, hQ h' t tk k⟩) sz)
def rReprA (K : PySem.W.Frag) : List V → Hp → VK → Prop := fun xs H Q => ∃ x d, xs = [x] ∧ Dd K H x d ∧ d.showable = true ∧ d.depth ≤ 64 ∧ d.shown.length ≤ sizeLine ∧ Q (.str d.shown) H
theorem call_reprA {X : Cx} {K : PySem.W.Frag} {k : Nat} (h : X.K = K) (hg : X.A.guards = some []) (hr : Room k X.A) : CallR X (.builtin "repr") (rReprA K) := by
  subst h
  intro pins s σ H xs us Q I r h
  obtain ⟨x, d, rfl, dd, sh, de, sz, q⟩ := h
  obtain ⟨u, rfl, ru⟩ := r.one
  have un := hr.un
  exact repr_any I dd ru sh hg (by omega) sz fun h' t tk keep => ⟨.str _, H, I.kept keep, ⟨_, rfl⟩, q⟩
/-! ### it stays -/
mutual
theorem Dd.kt {K : PySem.W.Frag} {H H' : Hp} (l : ∀ {a xs}, SqL K H a xs → SqL K H' a xs) (t : ∀ {a xs}, SqT K H a xs → SqT K H' a xs) (k : ∀ {a kvs}, H a = some (.dK kvs) → H' a = some (.dK kvs)) : ∀ {v : V} {d : PyData}, Dd K H v d → Dd K H' v d
  | _, _, .non => .non
  | _, _, .bl b => .bl b
  | _, _, .int i => .int i
  | _, _, .str x => .str x
  | _, _, .lst q r => .lst (l q) (DdAll.kt l t k r)
  | _, _, .tup q r => .tup (t q) (DdAll.kt l t k r)
  | _, _, .dct q e r => .dct (k q) e (DdAll.kt l t k r)
theorem DdAll.kt {K : PySem.W.Frag} {H H' : Hp} (l : ∀ {a xs}, SqL K H a xs → SqL K H' a xs) (t : ∀ {a xs}, SqT K H a xs → SqT K H' a xs) (k : ∀ {a kvs}, H a = some (.dK kvs) → H' a = some (.dK kvs)) : ∀ {vs : List V} {ds : List PyData}, DdAll K H vs ds → DdAll K H' vs ds
  | _, _, .nil => .nil
  | _, _, .cons h t' => .cons (Dd.kt l t k h) (DdAll.kt l t k t')
end
theorem tup_same {K : PySem.W.Frag} {H H' : Hp} {a : Addr} {xs : List V} (s : Same H H') (h : SqT K H a xs) : SqT K H' a xs := by
  rcases h with (h | ⟨o, h⟩) | h
  · exact .inl (.inl (s _ _ h))
  · exact .inl (.inr ⟨o, s _ _ h⟩)
  · exact .inr h
theorem Dd.same {K : PySem.W.Frag} {H H' : Hp} {v : V} {d : PyData} (s : Same H H') (h : Dd K H v d) : Dd K H' v d := h.kt (fun q => s.seq q) (fun q => tup_same s q) (fun q => s _ _ q)
/-- the heap but for what stands at u -/
def off (u : Addr) (H : Hp) : Hp := fun b => if b = u then none else H b
theorem off_same {u : Addr} {H : Hp} : Same (off u H) H := fun b o h => by
  unfold off at h
  split at h
  · cases h
  · exact h
theorem off_but {u : Addr} {H H' : Hp} (k : But u H H') : Same (off u H) (off u H') := fun b o h => by
  unfold off at h ⊢
  split at h
  · cases h
  · rename_i n
    rw [if_neg n]
    exact k b o n h
theorem off_at {u p : Addr} {H : Hp} {o : HO} (h : H p = some o) (n : p ≠ u) : off u H p = some o := by
  unfold off
  rw [if_neg n]
  exact h
theorem Dd.but {K : PySem.W.Frag} {u : Addr} {H H' : Hp} {v : V} {d : PyData} (k : But u H H') (h : Dd K (off u H) v d) : Dd K (off u H') v d := h.same (off_but k)
theorem Dd.on {K : PySem.W.Frag} {u : Addr} {H : Hp} {v : V} {d : PyData} (h : Dd K (off u H) v d) : Dd K H v d := h.same off_same
/-- the kind of a thing -/
theorem Dd.ty {K : PySem.W.Frag} {H : Hp} {v : V} {d : PyData} (h : Dd K H v d) : ∃ T : String, TyX K H v (.type T) ∧ (T = "int" ↔ ∃ i, v = .int i) ∧ (T = "bool" ↔ ∃ b, v = .bl b) ∧ T ∈ ["NoneType", "bool", "int", "str", "list", "tuple", "dict"] := by
  cases h with
  | non => exact ⟨"NoneType", .base .non, by simp, by simp, by simp⟩
  | bl b => exact ⟨"bool", .base (.bl b), by simp, by simp, by simp⟩
  | int i => exact ⟨"int", .base (.int i), by simp, by simp, by simp⟩
  | str x => exact ⟨"str", .base (.str x), by simp, by simp, by simp⟩
  | lst q r =>
    refine ⟨"list", ?_, by simp, by simp, by simp⟩
    rcases q with (q | ⟨o, q⟩) | ⟨o, its, n, q, c, _⟩
    · exact .base (.lst q)
    · exact .base (.frz q)
    · exact .kList q c
  | tup q r =>
    refine ⟨"tuple", ?_, by simp, by simp, by simp⟩
    rcases q with (q | ⟨o, q⟩) | ⟨o, its, n, q, c, _⟩
    · exact .base (.tup q)
    · exact .fTuple q
    · exact .kTuple q c
  | dct q e r => exact ⟨"dict", .base (.dK q), by simp, by simp, by simp⟩
/-! ### data that is shown in few signs -/
def Nice (n : Nat) (d : PyData) : Prop := d.showable = true ∧ d.depth ≤ n ∧ d.shown.length ≤ 3000 + 20 * n
theorem Nice.up {n m : Nat} {d : PyData} (h : Nice n d) (l : n ≤ m) : Nice m d := ⟨h.1, Nat.le_trans h.2.1 l, Nat.le_trans h.2.2 (by omega)⟩
theorem Nice.line {n : Nat} {d : PyData} (h : Nice n d) (l : n ≤ 64) : d.showable = true ∧ d.depth ≤ 64 ∧ d.shown.length ≤ sizeLine := ⟨h.1, Nat.le_trans h.2.1 l, Nat.le_trans h.2.2 (by rw [sizeLine_eq]; omega)⟩
theorem nice_int {i : Int} (h : i.natAbs.log2 < 1920) : Nice 0 (.int i) := by
  obtain ⟨a, _, b, c⟩ := leaf_int h
  exact ⟨a, Nat.le_of_eq b, Nat.le_trans c (by decide)⟩
theorem tup1_len (t : Str) : (tupleText [t]).length = t.length + 3 := by
  unfold tupleText
  rw [strLen_append, strLen_append]
  show 1 + t.length + 2 = t.length + 3
  omega
theorem lst1_len (t : Str) : (listText [t]).length = t.length + 2 := by
  unfold listText
  rw [strLen_append]
  show (("[" : Str) ++ ("" : Str) ++ t).length + 1 = t.length + 2
  rw [strLen_append, strLen_append]
  show 1 + 0 + t.length + 1 = t.length + 2
  omega
theorem dct1_len (t : Str) : (dictText [t]).length = t.length + 2 := by
  unfold dictText
  rw [strLen_append, strLen_append]
  show 1 + t.length + 1 = t.length + 2
  omega
theorem tup2_len (t u : Str) : (tupleText [t, u]).length = t.length + u.length + 4 := by
  unfold tupleText
  have e := join_length_add [t, u] (by simp)
  rw [piled_cons, piled_cons, piled_nil] at e
  rw [strLen_append, strLen_append]
  show 1 + (Str.join ", " [t, u]).length + 1 = _
  omega
theorem nice_tup1 {n : Nat} {d : PyData} (h : Nice n d) : Nice (n + 1) (.tuple [d]) := by
  obtain ⟨a, b, c⟩ := h
  refine ⟨by simp only [PyData.showable, PyData.showableAll, a, Bool.and_self], ?_, ?_⟩
  · simp only [PyData.depth, PyData.depthAll]
    omega
  · simp only [PyData.shown, PyData.shownAll, tup1_len]
    omega
theorem nice_lst1 {n : Nat} {d : PyData} (h : Nice n d) : Nice (n + 1) (.list [d]) := by
  obtain ⟨a, b, c⟩ := h
  refine ⟨by simp only [PyData.showable, PyData.showableAll, a, Bool.and_self], ?_, ?_⟩
  · simp only [PyData.depth, PyData.depthAll]
    omega
  · simp only [PyData.shown, PyData.shownAll, lst1_len]
    omega
theorem nice_dct1 {n : Nat} {d : PyData} {x : Str} (hx : (reprText x).length ≤ 10) (h : Nice n d) : Nice (n + 1) (.dict [(.str x, d)]) := by
  obtain ⟨a, b, c⟩ := h
  refine ⟨by simp only [PyData.showable, PyData.showableKv, a, Bool.and_self], ?_, ?_⟩
  · simp only [PyData.depth, PyData.depthKv]
    omega
  · simp only [PyData.shown, PyData.shownKv, dct1_len]
    rw [strLen_append, strLen_append]
    show (reprText x).length + 2 + d.shown.length + 2 ≤ _
    omega
theorem nice_tup2 {n : Nat} {d e : PyData} (h : Nice n d) (k : Nice 0 e) (l : e.shown.length ≤ 10) : Nice (n + 1) (.tuple [d, e]) := by
  obtain ⟨a, b, c⟩ := h
  obtain ⟨a', b', _⟩ := k
  refine ⟨by simp only [PyData.showable, PyData.showableAll, a, a', Bool.and_self], ?_, ?_⟩
  · simp only [PyData.depth, PyData.depthAll]
    omega
  · simp only [PyData.shown, PyData.shownAll, tup2_len]
    omega
end Lj
set_option Elab.async false
set_option linter.all false
set_option maxRecDepth 100000
set_option maxHeartbeats 1000000
namespace Lj
open PySem PySem.Spec PyProof.Rows L2
/-! ### zip of any two things that can be walked: each a feed -/
/-- an iterator at i with n things to give, as long as its source stands -/
structure Feed (i : Addr) (n : Nat) (f : Nat → Value → Prop) (St : Nat → Heap → Prop) (Src : Heap → Prop) : Prop where
  give : ∀ {prog : Program} {w : World} {A : Around} {E : Value → Shared → Prop} {s : Shared} {k : Nat} {Q : Value → Shared → Prop}, k < n → St k s.heap → Src s.heap → (∀ x h' tk, f k x → St (k + 1) h' → Heap.SameBut i s.heap h' → Q x { s with heap := h', toks := tk }) →
    wpAny (model prog w) A (Builtin.SmallTypes.nextOf (.ref i)) Q E s
  over : ∀ {prog : Program} {w : World} {A : Around} {E : Value → Shared → Prop} {s : Shared} {Q : Value → Shared → Prop}, A.handled = none → St n s.heap → Src s.heap → (∀ h' e tk, Heap.ExtBut i s.heap h' → (∃ o, h'.get? e = some o ∧ o.cls = .type "StopIteration") → E (.ref e) { s with heap := h', toks := tk }) →
    wpAny (model prog w) A (Builtin.SmallTypes.nextOf (.ref i)) Q E s
  stay : ∀ {k : Nat} {h h' : Heap}, St k h → (∀ o, h.get? i = some o → h'.get? i = some o) → St k h'
  obj : ∀ {k : Nat} {h : Heap}, St k h → ∃ o vs, h.get? i = some o ∧ o.data = .fields vs
theorem feed_list {i l : Addr} {its : Array Value} : Feed i its.size (fun k x => its[k]? = some x) (fun k h => h.IsListIter i l k) (fun h => h.IsList l its) where
  give := fun {_ _ _ _ s k _} hk st src q => wpAny_nextOf_list_item st src (Array.getElem?_eq_getElem hk) fun h' a b => q _ h' s.toks (Array.getElem?_eq_getElem hk) a b
  over := fun {_ _ _ _ s _} hh st src q => wpAny_nextOf_list_end hh st src (by simp) fun h' e a b => q h' e s.toks a b
  stay := fun ⟨o, e, r⟩ k => ⟨o, k o e, r⟩
  obj := fun ⟨o, e, _, d⟩ => ⟨o, _, e, d⟩
theorem feed_tup {i l : Addr} {its : Array Value} : Feed i its.size (fun k x => its[k]? = some x) (fun k h => h.IsTupleIter i l k) (fun h => h.IsTuple l its) where
  give := fun {_ _ _ _ s k _} hk st src q => RZ.nextOf_tuple_item st src (Array.getElem?_eq_getElem hk) fun h' a b => q _ h' s.toks (Array.getElem?_eq_getElem hk) a b
  over := fun {_ _ _ _ s _} hh st src q => RZ.nextOf_tuple_end hh st src (by simp) fun h' e a b => q h' e s.toks a b
  stay := fun ⟨o, e, r⟩ k => ⟨o, k o e, r⟩
  obj := fun ⟨o, e, _, d⟩ => ⟨o, _, e, d⟩
/-- the five objects of a zip are apart -/
structure Five (z I O a b : Addr) : Prop where
  Iz : I ≠ z
  Oz : O ≠ z
  az : a ≠ z
  bz : b ≠ z
  IO : I ≠ O
  Ia : I ≠ a
  Ib : I ≠ b
  Oa : O ≠ a
  Ob : O ≠ b
  ab : a ≠ b
/-- what a step of the zip leaves alone -/
def Beside (z O a b : Addr) (h h' : Heap) : Prop := ∀ c o, c ≠ z → c ≠ O → c ≠ a → c ≠ b → h.get? c = some o → h'.get? c = some o
section
variable {prog : Program} {w : World} {A : Around} {E : Value → Shared → Prop} {s : Shared} {z I O a b : Addr} {m n k : Nat} {f g : Nat → Value → Prop} {S1 S2 : Nat → Heap → Prop} {R1 R2 : Heap → Prop} {p q : Value}
theorem zf_give {Q : Value → Shared → Prop} (D : Five z I O a b) (F1 : Feed a m f S1 R1) (F2 : Feed b n g S2 R2) (r1 : ∀ h h', R1 h → Beside z O a b h h' → R1 h') (r2 : ∀ h h', R2 h → Beside z O a b h h' → R2 h')
    (zz : IsZip s.heap z I O .none) (zI : IsPair s.heap I (.ref a) (.ref b)) (zO : IsPair s.heap O p q) (s1 : S1 k s.heap) (s2 : S2 k s.heap) (q1 : R1 s.heap) (q2 : R2 s.heap) (km : k < m) (kn : k < n)
    (hQ : ∀ x y h' tk, f k x → g k y → IsZip h' z I O (rawInt s.heap.objs.size) → IsPair h' O x y → S1 (k + 1) h' → S2 (k + 1) h' → IsPair h' s.heap.objs.size x y → h'.objs.size = s.heap.objs.size + 1 → Beside z O a b s.heap h' → Q (.ref s.heap.objs.size) { s with heap := h', toks := tk }) :
    wpAny (model prog w) A (Builtin.«zip.__next__» ⟨[.ref z], []⟩) (fun fin s' => ∃ v, fin = .done (.ret v) ∧ Q v s') E s := by
  show wpAny _ _ (field (.ref z) 2 >>= _) _ _ _; refine wpAny_bind (wpAny_field zz rfl (x := .bool false) rfl ?_)
  show wpAny _ _ (field (.ref z) 3 >>= _) _ _ _; refine wpAny_bind (wpAny_field zz rfl (x := .ref I) rfl ?_)
  refine wpAny_bind (wpAny_seqItems zI rfl ?_)
  show wpAny _ _ (Builtin.SmallTypes.ownedTupleIsFree (.ref z) >>= _) _ _ _; refine wpAny_bind ?_
  unfold Builtin.SmallTypes.ownedTupleIsFree; refine wpAny_bind (wpAny_field zz rfl (x := .none) rfl (wpAny_pure ?_))
  simp only [if_true]; refine wpAny_bind (wpAny_rule (wpAny_bind (wpAny_field zz rfl (x := .ref O) rfl ?_)))
  refine wpAny_bind (wpAny_setField_rec zz (by simp) fun h1 z1 k1 => ?_)
  replace z1 : IsZip h1 z I O .ellipsis := z1
  refine wpAny_bind ?_
  simp only [List.zipIdx_cons, List.zipIdx_nil, List.forIn_cons, List.forIn_nil]; refine wpAny_bind (wpAny_bind (wpAny_onRaise ?_))
  show wpAny _ _ (Builtin.SmallTypes.nextOf (.ref a) >>= _) _ _ _
  have e1 : ∀ c o, c ≠ z → s.heap.get? c = some o → h1.get? c = some o := fun c o n e => k1.extBut _ _ n e
  refine wpAny_bind (F1.give km (F1.stay s1 fun o => e1 a o D.az) (r1 _ _ q1 fun c o n1 _ _ _ => e1 c o n1) fun x h2 t2 fx s12 k2 => wpAny_pure ?_)
  have e2 : ∀ c o, c ≠ a → h1.get? c = some o → h2.get? c = some o := fun c o n e => k2.extBut _ _ n e
  have O2 : IsPair h2 O p q := e2 _ _ D.Oa (e1 _ _ D.Oz zO)
  refine wpAny_bind (wpAny_seqItems O2 rfl (wpAny_bind (wpAny_updateSeq_pair O2 fun h3 O3 k3 => ?_)))
  replace O3 : IsPair h3 O x q := O3
  have e3 : ∀ c o, c ≠ O → h2.get? c = some o → h3.get? c = some o := fun c o n e => k3.extBut _ _ n e
  refine wpAny_bind (wpAny_letGo (wpAny_pure (wpAny_bind (wpAny_bind (wpAny_onRaise ?_)))))
  show wpAny _ _ (Builtin.SmallTypes.nextOf (.ref b) >>= _) _ _ _
  refine wpAny_bind (F2.give kn (F2.stay s2 fun o e => e3 b o D.Ob.symm (e2 b o D.ab.symm (e1 b o D.bz e))) (r2 _ _ q2 fun c o n1 n2 n3 _ e => e3 c o n2 (e2 c o n3 (e1 c o n1 e))) fun y h4 t4 gy s24 k4 => wpAny_pure ?_)
  have e4 : ∀ c o, c ≠ b → h3.get? c = some o → h4.get? c = some o := fun c o n e => k4.extBut _ _ n e
  have O4 : IsPair h4 O x q := e4 _ _ D.Ob O3
  refine wpAny_bind (wpAny_seqItems O4 rfl (wpAny_bind (wpAny_updateSeq_pair O4 fun h5 O5 k5 => ?_)))
  replace O5 : IsPair h5 O x y := O5
  have e5 : ∀ c o, c ≠ O → h4.get? c = some o → h5.get? c = some o := fun c o n e => k5.extBut _ _ n e
  refine wpAny_bind (wpAny_letGo (wpAny_pure (wpAny_pure (wpAny_bind (wpAny_seqItems O5 rfl (wpAny_bind (wpAny_newTuple ?_)))))))
  have sz : h5.objs.size = s.heap.objs.size := by rw [k5.1, k4.1, k3.1, k2.1, k1.1]
  have z5 : IsZip h5 z I O .ellipsis := e5 _ _ D.Oz.symm (e4 _ _ D.bz.symm (e3 _ _ D.Oz.symm (e2 _ _ D.az.symm z1)))
  have b5 : Beside z O a b s.heap h5 := fun c o n1 n2 n3 n4 e => e5 c o n2 (e4 c o n4 (e3 c o n2 (e2 c o n3 (e1 c o n1 e))))
  have s15 : S1 (k + 1) h5 := F1.stay s12 fun o e => e5 a o D.Oa.symm (e4 a o D.ab (e3 a o D.Oa.symm e))
  have s25 : S2 (k + 1) h5 := F2.stay s24 fun o e => e5 b o D.Ob.symm e
  have zl : z < h5.objs.size := Heap.lt_size z5
  show wpAny _ _ (Builtin.SmallTypes.ownedTupleHandOut (.ref z) (.ref h5.objs.size) >>= _) _ _ _
  refine wpAny_bind ?_; unfold Builtin.SmallTypes.ownedTupleHandOut
  refine wpAny_bind (wpAny_setField_rec (show IsZip (h5.push { cls := .type "tuple", data := .seq #[x, y] }) z I O .ellipsis from Heap.get?_push_of_some _ z5) (by simp) fun h7 z7 k7 => ?_)
  replace z7 : IsZip h7 z I O (rawInt h5.objs.size) := z7
  refine wpAny_setField_rec z7 (by simp) fun h8 z8 k8 => ?_
  replace z8 : IsZip h8 z I O (rawInt h5.objs.size) := z8
  have e8 : ∀ c o, c ≠ z → h5.get? c = some o → h8.get? c = some o := fun c o n e => k8.extBut _ _ n (k7.extBut _ _ n (Heap.get?_push_of_some _ e))
  have T8 : IsPair h8 h5.objs.size x y := k8.extBut _ _ (Nat.ne_of_gt zl) (k7.extBut _ _ (Nat.ne_of_gt zl) (Heap.get?_push_size _ rfl))
  have y8 : h8.objs.size = h5.objs.size + 1 := by rw [k8.1, k7.1, Heap.size_push]
  rw [sz] at z8 T8 y8
  refine wpAny_pure ⟨_, rfl, ?_⟩
  show Q (.ref h5.objs.size) _
  rw [sz]
  exact hQ x y h8 t4 fx gy z8 (e8 _ _ D.Oz O5) (F1.stay s15 fun o => e8 a o D.az) (F2.stay s25 fun o => e8 b o D.bz) T8 y8 fun c o n1 n2 n3 n4 e => e8 c o n1 (b5 c o n1 n2 n3 n4 e)
theorem zf_over {Q : Fin → Shared → Prop} (hh : A.handled = none) (D : Five z I O a b) (F1 : Feed a m f S1 R1) (F2 : Feed b n g S2 R2) (r1 : ∀ h h', R1 h → Beside z O a b h h' → R1 h') (r2 : ∀ h h', R2 h → Beside z O a b h h' → R2 h')
    (zz : IsZip s.heap z I O .none) (zI : IsPair s.heap I (.ref a) (.ref b)) (zO : IsPair s.heap O p q) (s1 : S1 k s.heap) (s2 : S2 k s.heap) (q1 : R1 s.heap) (q2 : R2 s.heap) (he : k = m ∨ (k < m ∧ k = n))
    (hE : ∀ h' e tk, Beside z O a b s.heap h' → (∃ o, h'.get? e = some o ∧ o.cls = .type "StopIteration") → E (.ref e) { s with heap := h', toks := tk }) :
    wpAny (model prog w) A (Builtin.«zip.__next__» ⟨[.ref z], []⟩) Q E s := by
  show wpAny _ _ (field (.ref z) 2 >>= _) _ _ _; refine wpAny_bind (wpAny_field zz rfl (x := .bool false) rfl ?_)
  show wpAny _ _ (field (.ref z) 3 >>= _) _ _ _; refine wpAny_bind (wpAny_field zz rfl (x := .ref I) rfl ?_)
  refine wpAny_bind (wpAny_seqItems zI rfl ?_)
  show wpAny _ _ (Builtin.SmallTypes.ownedTupleIsFree (.ref z) >>= _) _ _ _; refine wpAny_bind ?_
  unfold Builtin.SmallTypes.ownedTupleIsFree; refine wpAny_bind (wpAny_field zz rfl (x := .none) rfl (wpAny_pure ?_))
  simp only [if_true]; refine wpAny_bind (wpAny_rule (wpAny_bind (wpAny_field zz rfl (x := .ref O) rfl ?_)))
  refine wpAny_bind (wpAny_setField_rec zz (by simp) fun h1 z1 k1 => ?_)
  replace z1 : IsZip h1 z I O .ellipsis := z1
  refine wpAny_bind ?_
  simp only [List.zipIdx_cons, List.zipIdx_nil, List.forIn_cons, List.forIn_nil]; refine wpAny_bind (wpAny_bind (wpAny_onRaise ?_))
  show wpAny _ _ (Builtin.SmallTypes.nextOf (.ref a) >>= _) _ _ _
  have e1 : ∀ c o, c ≠ z → s.heap.get? c = some o → h1.get? c = some o := fun c o n e => k1.extBut _ _ n e
  have s11 := F1.stay s1 fun o => e1 a o D.az
  have q11 := r1 _ _ q1 fun c o n1 _ _ _ => e1 c o n1
  have fin : ∀ {h2 : Heap} {t2 : Nat} {e : Addr}, IsZip h2 z I O .ellipsis → Beside z O a b s.heap h2 → (∃ o, h2.get? e = some o ∧ o.cls = .type "StopIteration") → wpAny (model prog w) A (setField (.ref z) 0 .none) (fun _ s' => E (.ref e) s') E { s with heap := h2, toks := t2 } := fun {h2 t2 e} z2 b2 ⟨oe, g, c⟩ => by
    have ne : e ≠ z := fun y => by subst y; rw [z2] at g; cases g; simp at c
    exact wpAny_setField_rec z2 (by simp) fun h3 _ k3 => hE h3 e t2 (fun c o n1 n2 n3 n4 y => k3.extBut _ _ n1 (b2 c o n1 n2 n3 n4 y)) ⟨oe, k3.extBut _ _ ne g, c⟩
  rcases he with rfl | ⟨km, rfl⟩
  · refine wpAny_bind (F1.over hh s11 q11 fun h2 e t2 k2 ex => ?_)
    exact fin (k2 _ _ D.az.symm z1) (fun c o n1 _ n3 _ y => k2 _ _ n3 (e1 c o n1 y)) ex
  · refine wpAny_bind (F1.give km s11 q11 fun x h2 t2 fx s12 k2 => wpAny_pure ?_)
    have e2 : ∀ c o, c ≠ a → h1.get? c = some o → h2.get? c = some o := fun c o n e => k2.extBut _ _ n e
    have O2 : IsPair h2 O p q := e2 _ _ D.Oa (e1 _ _ D.Oz zO)
    refine wpAny_bind (wpAny_seqItems O2 rfl (wpAny_bind (wpAny_updateSeq_pair O2 fun h3 O3 k3 => ?_)))
    have e3 : ∀ c o, c ≠ O → h2.get? c = some o → h3.get? c = some o := fun c o n e => k3.extBut _ _ n e
    refine wpAny_bind (wpAny_letGo (wpAny_pure (wpAny_bind (wpAny_bind (wpAny_onRaise ?_)))))
    show wpAny _ _ (Builtin.SmallTypes.nextOf (.ref b) >>= _) _ _ _
    refine wpAny_bind (F2.over hh (F2.stay s2 fun o e => e3 b o D.Ob.symm (e2 b o D.ab.symm (e1 b o D.bz e))) (r2 _ _ q2 fun c o n1 n2 n3 _ e => e3 c o n2 (e2 c o n3 (e1 c o n1 e))) fun h4 e t4 k4 ex => ?_)
    exact fin (k4 _ _ D.bz.symm (e3 _ _ D.Oz.symm (e2 _ _ D.az.symm z1))) (fun c o n1 n2 n3 n4 y => k4 _ _ n4 (e3 c o n2 (e2 c o n3 (e1 c o n1 y)))) ex
theorem zf_next {Q : Option Value → Shared → Prop} (D : Five z I O a b) (F1 : Feed a m f S1 R1) (F2 : Feed b n g S2 R2) (r1 : ∀ h h', R1 h → Beside z O a b h h' → R1 h') (r2 : ∀ h h', R2 h → Beside z O a b h h' → R2 h')
    (zz : IsZip s.heap z I O .none) (zI : IsPair s.heap I (.ref a) (.ref b)) (zO : IsPair s.heap O p q) (s1 : S1 k s.heap) (s2 : S2 k s.heap) (q1 : R1 s.heap) (q2 : R2 s.heap) (km : k < m) (kn : k < n)
    (hQ : ∀ x y h' tk, f k x → g k y → IsZip h' z I O (rawInt s.heap.objs.size) → IsPair h' O x y → S1 (k + 1) h' → S2 (k + 1) h' → IsPair h' s.heap.objs.size x y → h'.objs.size = s.heap.objs.size + 1 → Beside z O a b s.heap h' → Q (some (.ref s.heap.objs.size)) { s with heap := h', toks := tk }) :
    wpAny (model prog w) A (pyNext (.ref z)) Q E s := by
  have ty : s.TypeIs (.ref z) "zip" := ⟨_, zz, rfl⟩
  unfold pyNext; refine wpAny_bind (wpAny_attempt (wpAny_callSpecial?_slot (name := Str.ofString "__next__") ty F.slot_zip_next (wpAny_call_entry F.slot_zip_next ty F.entry_zip_next (zf_give D F1 F2 r1 r2 zz zI zO s1 s2 q1 q2 km kn fun x y h' tk b1 b2 b3 b4 b5 b6 b7 b8 b9 => ?_) (F.args_zip_next_1 _))))
  exact wpAny_pure (hQ x y h' tk b1 b2 b3 b4 b5 b6 b7 b8 b9)
theorem zf_done {Q : Option Value → Shared → Prop} (hh : A.handled = none) (D : Five z I O a b) (F1 : Feed a m f S1 R1) (F2 : Feed b n g S2 R2) (r1 : ∀ h h', R1 h → Beside z O a b h h' → R1 h') (r2 : ∀ h h', R2 h → Beside z O a b h h' → R2 h')
    (zz : IsZip s.heap z I O .none) (zI : IsPair s.heap I (.ref a) (.ref b)) (zO : IsPair s.heap O p q) (s1 : S1 k s.heap) (s2 : S2 k s.heap) (q1 : R1 s.heap) (q2 : R2 s.heap) (he : k = m ∨ (k < m ∧ k = n))
    (hQ : ∀ h' tk, Beside z O a b s.heap h' → Q none { s with heap := h', toks := tk }) : wpAny (model prog w) A (pyNext (.ref z)) Q E s := by
  have ty : s.TypeIs (.ref z) "zip" := ⟨_, zz, rfl⟩
  unfold pyNext; refine wpAny_bind (wpAny_attempt (wpAny_callSpecial?_slot (name := Str.ofString "__next__") ty F.slot_zip_next (wpAny_call_entry F.slot_zip_next ty F.entry_zip_next (zf_over hh D F1 F2 r1 r2 zz zI zO s1 s2 q1 q2 he fun h' e tk k ⟨o, g, c⟩ => ?_) (F.args_zip_next_1 _))))
  exact wpAny_bind (wpAny_isInstance (T := "StopIteration") (b := true) ⟨o, g, c⟩ isSubtype_stop (wpAny_pure (hQ _ _ k)))
end
end Lj
set_option Elab.async false
set_option linter.all false
set_option maxRecDepth 100000
set_option maxHeartbeats 1000000
namespace Lj
open PySem PySem.Spec PyProof.Rows L2
/-- something that can be walked: St tells its iterator, G that it stands, ls where, xs what it gives -/
structure Sr (P : Program) (w : World) (K : PySem.W.Frag) (St : Addr → Nat → Heap → Prop) (G : Hp → Prop) (ls : List Addr) (xs : List V) : Prop where
  feed : ∀ {X : Cx} {pins : List (Addr × Obj)} {σ : L2.St} {H : Hp} {s : Shared}, X.prog = P → X.w = w → X.K = K → Inv X pins σ H s → G H → ∀ i : Addr, ∃ (f : Nat → Value → Prop) (Src : Heap → Prop), Feed i xs.length f (St i) Src ∧ Src s.heap ∧
    (∀ h h', Src h → (∀ l ∈ ls, ∀ o, h.get? l = some o → h'.get? l = some o) → Src h') ∧ ∀ k u, f k u → ∃ x, xs[k]? = some x ∧ RelV x u
  stay : ∀ {i : Addr} {k : Nat} {h h' : Heap}, St i k h → (∀ o, h.get? i = some o → h'.get? i = some o) → St i k h'
  obj : ∀ {i : Addr} {k : Nat} {h : Heap}, St i k h → ∃ o vs, h.get? i = some o ∧ o.data = .fields vs
theorem sr_list {P : Program} {w : World} {K : PySem.W.Frag} {a : Addr} {xs : List V} : Sr P w K (fun i k h => h.IsListIter i a k) (fun H => SqL K H a xs) [a] xs where
  feed := fun {X pins σ H s} e1 e2 e3 I g i => by
    subst e3
    obtain ⟨its, rv, pl, _⟩ := I.list g
    refine ⟨fun k x => its.toArray[k]? = some x, fun h => h.IsList a its.toArray, ?_, pl.isList, fun h h' q k => ?_, fun k u e => ?_⟩
    · have z := feed_list (i := i) (l := a) (its := its.toArray)
      rw [List.size_toArray, ← rv.length] at z
      exact z
    · obtain ⟨o, ho, r⟩ := q
      exact ⟨o, k a List.mem_cons_self o ho, r⟩
    · have e : its.toArray[k]? = some u := e
      rw [List.getElem?_toArray] at e
      have hk : k < xs.length := by rw [rv.length]; exact (List.getElem?_eq_some_iff.mp e).1
      obtain ⟨u', hu, ru⟩ := rv.get (List.getElem?_eq_getElem hk)
      rw [e] at hu
      cases hu
      exact ⟨_, List.getElem?_eq_getElem hk, ru⟩
  stay := fun ⟨o, e, r⟩ k => ⟨o, k o e, r⟩
  obj := fun ⟨o, e, _, d⟩ => ⟨o, _, e, d⟩
theorem sr_tup {P : Program} {w : World} {K : PySem.W.Frag} {a : Addr} {xs : List V} : Sr P w K (fun i k h => h.IsTupleIter i a k) (fun H => SqT K H a xs) [a] xs where
  feed := fun {X pins σ H s} e1 e2 e3 I g i => by
    subst e3
    obtain ⟨its, rv, pl, _⟩ := I.tuple g
    refine ⟨fun k x => its.toArray[k]? = some x, fun h => h.IsTuple a its.toArray, ?_, pl, fun h h' q k => ?_, fun k u e => ?_⟩
    · have z := feed_tup (i := i) (l := a) (its := its.toArray)
      rw [List.size_toArray, ← rv.length] at z
      exact z
    · obtain ⟨o, ho, r⟩ := q
      exact ⟨o, k a List.mem_cons_self o ho, r⟩
    · have e : its.toArray[k]? = some u := e
      rw [List.getElem?_toArray] at e
      have hk : k < xs.length := by rw [rv.length]; exact (List.getElem?_eq_some_iff.mp e).1
      obtain ⟨u', hu, ru⟩ := rv.get (List.getElem?_eq_getElem hk)
      rw [e] at hu
      cases hu
      exact ⟨_, List.getElem?_eq_getElem hk, ru⟩
  stay := fun ⟨o, e, r⟩ k => ⟨o, k o e, r⟩
  obj := fun ⟨o, e, _, d⟩ => ⟨o, _, e, d⟩
/-- pairs of the things of two sources, as long as both stand -/
def ItF (n : Nat) (G : Hp → Prop) (xs ys : List V) : It :=
  ⟨fun i H => i < n ∧ G H, fun i H v H' => ∃ T x y, v = .ref T ∧ H T = none ∧ H' = upd H T (.tup [x, y]) ∧ xs[i]? = some x ∧ ys[i]? = some y, fun i H => i = n ∧ G H⟩
theorem walk_F {n : Nat} {G : Hp → Prop} {xs ys : List V} : Walk (ItF n G xs ys) n G (YPair (fun i => xs[i]?) (fun i => ys[i]?)) :=
  ⟨fun i _ hi q => ⟨hi, q⟩, fun _ q => ⟨rfl, q⟩, fun i H v H' _ q y => y⟩
def zipTn (S1 S2 : Addr → Nat → Heap → Prop) (z I O a b : Addr) : Nat → Heap → Prop := fun i h => IsZip h z I O .none ∧ IsPair h I (.ref a) (.ref b) ∧ (∃ x y, IsPair h O x y) ∧ S1 a i h ∧ S2 b i h
theorem turn_F {P : Program} {w : World} {K : PySem.W.Frag} {elts : List Expr} {kk : Nat} {tpos : Pos} {z I O a b : Addr} {S1 S2 : Addr → Nat → Heap → Prop} {G1 G2 : Hp → Prop} {l1 l2 : List Addr} {xs ys : List V} (D : Five z I O a b) (F1 : Sr P w K S1 G1 l1 xs) (F2 : Sr P w K S2 G2 l2 ys)
    (n1 : ∀ l ∈ l1, l ≠ z ∧ l ≠ O ∧ l ≠ a ∧ l ≠ b) (n2 : ∀ l ∈ l2, l ≠ z ∧ l ≠ O ∧ l ≠ a ∧ l ≠ b) : Turn P w K (.Tuple elts kk tpos) (ItF (min xs.length ys.length) (fun H => G1 H ∧ G2 H) xs ys) [z, I, O, a, b] z (zipTn S1 S2 z I O a b) where
  mem := List.mem_cons_self
  obj := fun i h st c hc => by
    obtain ⟨q1, q2, ⟨x, y, q3⟩, q4, q5⟩ := st
    obtain ⟨o4, v4, e4, d4⟩ := F1.obj q4
    obtain ⟨o5, v5, e5, d5⟩ := F2.obj q5
    simp only [List.mem_cons, List.not_mem_nil, or_false] at hc
    rcases hc with rfl | rfl | rfl | rfl | rfl
    · exact ⟨_, q1, fun v e => nomatch e⟩
    · exact ⟨_, q2, fun v e => nomatch e⟩
    · exact ⟨_, q3, fun v e => nomatch e⟩
    · exact ⟨o4, e4, fun v e => by rw [d4] at e; cases e⟩
    · exact ⟨o5, e5, fun v e => by rw [d5] at e; cases e⟩
  keep := fun i h h' st k => by
    obtain ⟨q1, q2, ⟨x, y, q3⟩, q4, q5⟩ := st
    exact ⟨k z (by simp) _ q1, k I (by simp) _ q2, ⟨x, y, k O (by simp) _ q3⟩, F1.stay q4 fun o e => k a (by simp) o e, F2.stay q5 fun o e => k b (by simp) o e⟩
  item := by
    intro X hP hw hK hc i pins s σ H E Iv hf st hg
    obtain ⟨q1, q2, ⟨x0, y0, q3⟩, q4, q5⟩ := st
    obtain ⟨hi, g1, g2⟩ := hg
    obtain ⟨f, S, fd, sr, ss, fr⟩ := F1.feed hP hw hK Iv g1 a
    obtain ⟨g, S', fd', sr', ss', fr'⟩ := F2.feed hP hw hK Iv g2 b
    subst hP hw hK
    have zl : z < s.heap.objs.size := Heap.lt_size q1
    have st1 : ∀ h h', S h → Beside z O a b h h' → S h' := fun h h' q k => ss h h' q fun l m o e => k l o (n1 l m).1 (n1 l m).2.1 (n1 l m).2.2.1 (n1 l m).2.2.2 e
    have st2 : ∀ h h', S' h → Beside z O a b h h' → S' h' := fun h h' q k => ss' h h' q fun l m o e => k l o (n2 l m).1 (n2 l m).2.1 (n2 l m).2.2.1 (n2 l m).2.2.2 e
    refine zf_next D fd fd' st1 st2 q1 q2 q3 q4 q5 sr sr' (by omega) (by omega) fun u v h' tk fu gv z' O' s1' s2' T sz bes => ?_
    obtain ⟨x, hx, ru⟩ := fr i u fu
    obtain ⟨y, hy, rv⟩ := fr' i v gv
    refine ⟨_, rfl, wpAny_letOwnedTupleGo_zip (s := { s with heap := h', toks := tk }) z' fun h2 z2 sb => ?_⟩
    have T2 : h2.get? s.heap.objs.size = some { cls := .type "tuple", data := .seq #[u, v] } := (sb.2 _ (Nat.ne_of_gt zl)).trans T
    have new : ObjOk X.prog X.w (upd H s.heap.objs.size (.tup [x, y])) h2 s.heap.objs.size (.tup [x, y]) := ⟨by show 2 ≤ sizeLine; decide, [u, v], .cons ru (.cons rv .nil), ⟨_, T2, rfl, _, rfl⟩⟩
    have I1 : Inv X pins σ (upd H s.heap.objs.size (.tup [x, y])) { s with heap := h2, toks := tk } := Iv.turnedNew (t' := tk) (ch := [z, I, O, a, b]) (fun c o hb e => by
      simp only [List.mem_cons, List.not_mem_nil, or_false, not_or] at hb
      exact (sb.2 c hb.1).trans (bes c o hb.1 hb.2.2.1 hb.2.2.2.1 hb.2.2.2.2 e)) hf (Nat.le_refl _) new
    refine ⟨.ref s.heap.objs.size, _, I1, rfl, ⟨_, x, y, rfl, Iv.hok.fresh (Nat.le_refl _), rfl, hx, hy⟩, ⟨z2, ?_, ⟨u, v, ?_⟩, ?_, ?_⟩, fun c hcm => ?_⟩
    · exact (sb.2 _ D.Iz).trans (bes _ _ D.Iz D.IO D.Ia D.Ib q2)
    · exact (sb.2 _ D.Oz).trans O'
    · exact F1.stay s1' fun o e => (sb.2 _ D.az).trans e
    · exact F2.stay s2' fun o e => (sb.2 _ D.bz).trans e
    · have lt : c < s.heap.objs.size := by
        obtain ⟨o4, _, e4, _⟩ := F1.obj q4
        obtain ⟨o5, _, e5, _⟩ := F2.obj q5
        simp only [List.mem_cons, List.not_mem_nil, or_false] at hcm
        rcases hcm with rfl | rfl | rfl | rfl | rfl
        · exact zl
        · exact Heap.lt_size q2
        · exact Heap.lt_size q3
        · exact Heap.lt_size e4
        · exact Heap.lt_size e5
      rw [upd_ne (Nat.ne_of_lt lt)]
      exact (hf c hcm).1
  done := by
    intro X hP hw hK hc i pins s σ H E Iv hf st hg
    obtain ⟨q1, q2, ⟨x0, y0, q3⟩, q4, q5⟩ := st
    obtain ⟨hi, g1, g2⟩ := hg
    obtain ⟨f, S, fd, sr, ss, fr⟩ := F1.feed hP hw hK Iv g1 a
    obtain ⟨g, S', fd', sr', ss', fr'⟩ := F2.feed hP hw hK Iv g2 b
    subst hP hw hK
    have st1 : ∀ h h', S h → Beside z O a b h h' → S h' := fun h h' q k => ss h h' q fun l m o e => k l o (n1 l m).1 (n1 l m).2.1 (n1 l m).2.2.1 (n1 l m).2.2.2 e
    have st2 : ∀ h h', S' h → Beside z O a b h h' → S' h' := fun h h' q k => ss' h h' q fun l m o e => k l o (n2 l m).1 (n2 l m).2.1 (n2 l m).2.2.1 (n2 l m).2.2.2 e
    refine zf_done (Iv.ok.hd hc) D fd fd' st1 st2 q1 q2 q3 q4 q5 sr sr' (by omega) fun h' tk bes => ⟨rfl, Iv.turnedL (t' := tk) (ch := [z, I, O, a, b]) (fun c o hb e => ?_) hf⟩
    simp only [List.mem_cons, List.not_mem_nil, or_false, not_or] at hb
    exact bes c o hb.1 hb.2.2.1 hb.2.2.2.1 hb.2.2.2.2 e
  self := fun A i s Q E st h => wpAny_pyIter_zip st.1 h
/-! ### zip(list, tuple): its making -/
abbrev zh (h : Heap) (p q : Obj) (a b : Nat) : Heap := (((((h.push p).push q).push { cls := .type "tuple", data := .seq #[.ref a, .ref b] }).push { cls := .type "tuple", data := .seq #[.none, .none] })).push { cls := .type "zip", data := .fields #[.none, .bool false, .bool false, .ref (a + 2), .ref (a + 3)] }
abbrev oLi (l : Addr) : Obj := { cls := .type "list_iterator", data := .fields #[.ref l, .int 0 0] }
abbrev oTi (l : Addr) : Obj := { cls := .type "tuple_iterator", data := .fields #[.ref l, .int 0 0] }
theorem five_new (n : Nat) : Five (n + 4) (n + 2) (n + 3) n (n + 1) := by
  have z : ∀ i j : Nat, i ≠ j → n + i ≠ n + j := fun i j h e => h (Nat.add_left_cancel e)
  exact ⟨z 2 4 (by decide), z 3 4 (by decide), z 0 4 (by decide), z 1 4 (by decide), z 2 3 (by decide), z 2 0 (by decide), z 2 1 (by decide), z 3 0 (by decide), z 3 1 (by decide), z 0 1 (by decide)⟩
theorem new_LT (l1 l2 : Addr) (xs ys : Array Value) : Meets (Builtin.«zip.__new__» ⟨[.type "zip", .ref l1, .ref l2], []⟩) (fun _ R s => s.heap.IsList l1 xs ∧ s.heap.IsTuple l2 ys ∧
      R (.ok (.ret (.ref (s.heap.objs.size + 4)))) { s with heap := zh s.heap (oLi l1) (oTi l2) s.heap.objs.size (s.heap.objs.size + 1) }) :=
  .of_wp fun prog w A R s h => by
    obtain ⟨hp, g, d, tk, os⟩ := s; obtain ⟨t1, t2, h⟩ := h
    have sub := sub_zip
    have T1 : Heap.IsList (Shared.heap ⟨hp, g, d, tk, os⟩) l1 xs := t1
    have T2 : Heap.IsTuple (Shared.heap ⟨hp.push { cls := .type "list_iterator", data := .fields #[.ref l1, .int 0 0] }, g, d, tk, os⟩) l2 ys := Heap.IsTuple.push t2 _
    wp_walk using wpAny_pyIter_list T1, wpAny_pyIter_tuple T2
    refine ⟨_, rfl, ?_⟩
    simp only [Heap.size_push]
    exact h
theorem zh_sz (h : Heap) (p q : Obj) (hp : p.isFreed = false := by rfl) (hq : q.isFreed = false := by rfl) : (zh h p q h.objs.size (h.objs.size + 1)).get? h.objs.size = some p ∧ (zh h p q h.objs.size (h.objs.size + 1)).get? (h.objs.size + 1) = some q ∧
    IsPair (zh h p q h.objs.size (h.objs.size + 1)) (h.objs.size + 2) (.ref h.objs.size) (.ref (h.objs.size + 1)) ∧ IsPair (zh h p q h.objs.size (h.objs.size + 1)) (h.objs.size + 3) .none .none ∧ IsZip (zh h p q h.objs.size (h.objs.size + 1)) (h.objs.size + 4) (h.objs.size + 2) (h.objs.size + 3) .none := by
  have z1 : (h.push p).objs.size = h.objs.size + 1 := Heap.size_push ..
  have z2 : ((h.push p).push q).objs.size = h.objs.size + 2 := by rw [Heap.size_push, z1]
  have z3 : (((h.push p).push q).push { cls := .type "tuple", data := .seq #[.ref h.objs.size, .ref (h.objs.size + 1)] }).objs.size = h.objs.size + 3 := by rw [Heap.size_push, z2]
  have z4 : ((((h.push p).push q).push { cls := .type "tuple", data := .seq #[.ref h.objs.size, .ref (h.objs.size + 1)] }).push { cls := .type "tuple", data := .seq #[.none, .none] }).objs.size = h.objs.size + 4 := by rw [Heap.size_push, z3]
  have up : ∀ {h : Heap} {c : Addr} {o : Obj} (x : Obj), h.get? c = some o → (h.push x).get? c = some o := fun x e => Heap.get?_push_of_some x e
  refine ⟨up _ (up _ (up _ (up _ (Heap.get?_push_size h hp)))), ?_, ?_, ?_, ?_⟩
  · have e := Heap.get?_push_size (h.push p) hq
    rw [z1] at e
    exact up _ (up _ (up _ e))
  · have e := Heap.get?_push_size ((h.push p).push q) (o := { cls := .type "tuple", data := .seq #[.ref h.objs.size, .ref (h.objs.size + 1)] }) rfl
    rw [z2] at e
    exact up _ (up _ e)
  · have e := Heap.get?_push_size (((h.push p).push q).push { cls := .type "tuple", data := .seq #[.ref h.objs.size, .ref (h.objs.size + 1)] }) (o := { cls := .type "tuple", data := .seq #[.none, .none] }) rfl
    rw [z3] at e
    exact up _ e
  · have e := Heap.get?_push_size ((((h.push p).push q).push { cls := .type "tuple", data := .seq #[.ref h.objs.size, .ref (h.objs.size + 1)] }).push { cls := .type "tuple", data := .seq #[.none, .none] }) (o := { cls := .type "zip", data := .fields #[.none, .bool false, .bool false, .ref (h.objs.size + 2), .ref (h.objs.size + 3)] }) rfl
    rw [z4] at e
    exact e
def iZipLT (K : PySem.W.Frag) (ta : TA) : TI := fun σ H R => ta σ H fun vs H1 => ∃ (a b : Addr) (xs ys : List V), vs = [.ref a, .ref b] ∧ SqL K H1 a xs ∧ SqT K H1 b ys ∧ R (ItF (min xs.length ys.length) (fun H => SqL K H a xs ∧ SqT K H b ys) xs ys) H1
/-- zip(list, tuple) -/
theorem pi_zipLT {X : Cx} {e e2 : Expr} {ta : TA} {p pos tpos : Pos} {elts : List Expr} {kk : Nat} (hg : Gl X "zip") (hm : X.mg "zip" = none) (ha : PA X [e, e2] ta)
    (hs : starEach [e, e2] X.env = (false, eval e X.env) :: starEach [e2] X.env := by rfl) (hpl : (backTo pos (starEach [e2] X.env)).any (·.1) = false := by rfl) :
    PI X (.Tuple elts kk tpos) (.Call (.Name "zip" p) [e, e2] [] pos) (iZipLT X.K ta) := by
  refine ⟨fun pins s σ H R I h => Call_ (ld_blt I hg hm PyProof.Rows.boot_zip (PyProof.Rows.callWith_type1 (thn (ha.run pos pins s σ H _ I h) fun us s1 ⟨vs, H1, I1, r1, a, b, xs, ys, ex, g1, g2, q⟩ => ?_) hs hpl))⟩
  subst ex
  obtain ⟨u1, u2, rfl, ra, rb⟩ := r1.two
  cases ra
  cases rb
  obtain ⟨its, rv, p1, _⟩ := I1.list g1
  obtain ⟨its2, rv2, p2, _⟩ := I1.tuple g2
  have al : a < s1.heap.objs.size := p1.lt
  have bl : b < s1.heap.objs.size := by
    obtain ⟨o, ho, _⟩ := p2
    exact Heap.lt_size ho
  refine callType_new F.called_zip (by decide) (F.typeCall_zip_2 _ _) (F.newCall_zip_2 _ _) (fun obj => F.args_object_init_3 obj _ _) F.entry_zip_new (new_LT a b its.toArray its2.toArray) ⟨p1.isList, p2, ?_⟩
  obtain ⟨f1, f2, f3, f4, f5⟩ := zh_sz s1.heap (oLi a) (oTi b)
  have keep : ∀ c o, s1.heap.get? c = some o → (zh s1.heap (oLi a) (oTi b) s1.heap.objs.size (s1.heap.objs.size + 1)).get? c = some o := fun c o e => Heap.get?_push_of_some _ (Heap.get?_push_of_some _ (Heap.get?_push_of_some _ (Heap.get?_push_of_some _ (Heap.get?_push_of_some _ e))))
  refine ⟨⟨_, f5, rfl⟩, wpAny_pyIter_zip f5 ?_⟩
  have I2 : Inv X pins σ H1 { s1 with heap := zh s1.heap (oLi a) (oTi b) s1.heap.objs.size (s1.heap.objs.size + 1) } := I1.kept (t' := s1.toks) keep
  have ap : ∀ {l : Addr}, l < s1.heap.objs.size → l ≠ s1.heap.objs.size + 4 ∧ l ≠ s1.heap.objs.size + 3 ∧ l ≠ s1.heap.objs.size ∧ l ≠ s1.heap.objs.size + 1 := fun {l} h =>
    ⟨Nat.ne_of_lt (Nat.lt_add_right _ h), Nat.ne_of_lt (Nat.lt_add_right _ h), Nat.ne_of_lt h, Nat.ne_of_lt (Nat.lt_add_right _ h)⟩
  refine ⟨s1.heap.objs.size + 4, [s1.heap.objs.size + 4, s1.heap.objs.size + 2, s1.heap.objs.size + 3, s1.heap.objs.size, s1.heap.objs.size + 1], _, _, H1, rfl, I2, turn_F (five_new s1.heap.objs.size) (sr_list (a := a) (xs := xs)) (sr_tup (a := b) (xs := ys)) (fun l m => by rw [List.mem_singleton.mp m]; exact ap al) (fun l m => by rw [List.mem_singleton.mp m]; exact ap bl), ⟨f5, f3, ⟨_, _, f4⟩, ⟨_, f1, rfl, rfl⟩, ⟨_, f2, rfl, rfl⟩⟩, fun c hcm => ?_, q⟩
  have le : s1.heap.objs.size ≤ c := by
    simp only [List.mem_cons, List.not_mem_nil, or_false] at hcm
    rcases hcm with rfl | rfl | rfl | rfl | rfl
    · exact Nat.le_add_right _ _
    · exact Nat.le_add_right _ _
    · exact Nat.le_add_right _ _
    · exact Nat.le_refl _
    · exact Nat.le_add_right _ _
  exact I1.fpOk le (I1.hok.fresh le)
end Lj
set_option linter.all false
namespace Lj
/-! ### rows over the integers modulo p: combinations, spans, dimensions -/
abbrev Row := Nat → Int
def comb : List Int → List Row → Nat → Int
  | w :: ws, r :: R, i => w * r i + comb ws R i
  | _, _, _ => 0
/-- x is, in the places below L, a combination of R -/
def InSp (p : Int) (L : Nat) (R : List Row) (x : Row) : Prop := ∃ ws, ∀ i, i < L → p ∣ x i - comb ws R i
theorem comb_nil (ws : List Int) (i : Nat) : comb ws [] i = 0 := by cases ws <;> rfl
theorem comb_nilL (R : List Row) (i : Nat) : comb [] R i = 0 := by cases R <;> rfl
def scal (c : Int) : List Int → List Int
  | [] => []
  | w :: ws => c * w :: scal c ws
theorem comb_scal (c : Int) : ∀ (ws : List Int) (R : List Row) (i : Nat), comb (scal c ws) R i = c * comb ws R i
  | [], R, i => by rw [scal, comb_nilL, Int.mul_zero]
  | w :: ws, [], i => by rw [comb_nil, comb_nil, Int.mul_zero]
  | w :: ws, r :: R, i => by
    rw [scal, comb, comb, comb_scal c ws R i]
    grind
def plus : List Int → List Int → List Int
  | [], v => v
  | w, [] => w
  | a :: w, b :: v => (a + b) :: plus w v
theorem comb_plus : ∀ (ws vs : List Int) (R : List Row) (i : Nat), comb (plus ws vs) R i = comb ws R i + comb vs R i
  | [], v, R, i => by rw [plus, comb_nilL, Int.zero_add]
  | a :: w, [], R, i => by rw [plus, comb_nilL, Int.add_zero]; intro h; cases h
  | a :: w, b :: v, [], i => by rw [comb_nil, comb_nil, comb_nil]; rfl
  | a :: w, b :: v, r :: R, i => by
    rw [plus, comb, comb, comb, comb_plus w v R i]
    grind
section
variable {p : Int} {L : Nat}
theorem InSp.zero {R : List Row} {x : Row} (h : ∀ i, i < L → p ∣ x i) : InSp p L R x := ⟨[], fun i hi => by rw [comb_nilL, Int.sub_zero]; exact h i hi⟩
theorem InSp.lin {R : List Row} {x y z : Row} (a b : Int) (hx : InSp p L R x) (hy : InSp p L R y) (hz : ∀ i, i < L → p ∣ z i - (a * x i + b * y i)) : InSp p L R z := by
  obtain ⟨ws, hw⟩ := hx
  obtain ⟨vs, hv⟩ := hy
  refine ⟨plus (scal a ws) (scal b vs), fun i hi => ?_⟩
  rw [comb_plus, comb_scal, comb_scal]
  obtain ⟨k1, e1⟩ := hw i hi
  obtain ⟨k2, e2⟩ := hv i hi
  obtain ⟨k3, e3⟩ := hz i hi
  refine ⟨k3 + a * k1 + b * k2, ?_⟩
  grind
theorem InSp.cong {R : List Row} {x z : Row} (hx : InSp p L R x) (hz : ∀ i, i < L → p ∣ z i - x i) : InSp p L R z := by
  refine InSp.lin 1 0 hx hx fun i hi => ?_
  obtain ⟨k, e⟩ := hz i hi
  exact ⟨k, by grind⟩
theorem InSp.mem {r : Row} : ∀ {R : List Row}, r ∈ R → InSp p L R r
  | a :: R, h => by
    rcases List.mem_cons.mp h with rfl | h
    · refine ⟨[1], fun i _ => ?_⟩
      rw [comb, comb_nilL]
      exact ⟨0, by grind⟩
    · obtain ⟨ws, hw⟩ := InSp.mem h
      refine ⟨0 :: ws, fun i hi => ?_⟩
      rw [comb]
      obtain ⟨k, e⟩ := hw i hi
      exact ⟨k, by grind⟩
theorem InSp.of_comb {S : List Row} : ∀ {R : List Row} (ws : List Int), (∀ r ∈ R, InSp p L S r) → InSp p L S (comb ws R)
  | [], ws, _ => InSp.zero fun i _ => by rw [comb_nil]; exact Int.dvd_zero _
  | a :: R, [], _ => InSp.zero fun i _ => by rw [comb_nilL]; exact Int.dvd_zero _
  | a :: R, w :: ws, h => by
    refine InSp.lin w 1 (h a List.mem_cons_self) (InSp.of_comb ws fun r m => h r (List.mem_cons_of_mem _ m)) fun i _ => ?_
    rw [comb]
    exact ⟨0, by grind⟩
theorem InSp.into {R S : List Row} {x : Row} (hx : InSp p L R x) (h : ∀ r ∈ R, InSp p L S r) : InSp p L S x := by
  obtain ⟨ws, hw⟩ := hx
  exact (InSp.of_comb ws h).cong hw
theorem InSp.mono {R S : List Row} {x : Row} (hx : InSp p L R x) (h : ∀ r ∈ R, r ∈ S) : InSp p L S x := hx.into fun r m => InSp.mem (h r m)
theorem InSp.cons_iff {R : List Row} {a x : Row} : InSp p L (a :: R) x ↔ ∃ c : Int, InSp p L R fun i => x i - c * a i := by
  constructor
  · rintro ⟨ws, hw⟩
    cases ws with
    | nil =>
      refine ⟨0, InSp.zero fun i hi => ?_⟩
      have := hw i hi
      rw [comb_nilL, Int.sub_zero] at this
      rw [Int.zero_mul, Int.sub_zero]
      exact this
    | cons w ws =>
      refine ⟨w, ws, fun i hi => ?_⟩
      have := hw i hi
      rw [comb] at this
      rw [show x i - w * a i - comb ws R i = x i - (w * a i + comb ws R i) by omega]
      exact this
  · rintro ⟨c, h⟩
    refine InSp.lin 1 c (h.mono fun r m => List.mem_cons_of_mem _ m) (InSp.mem (r := a) List.mem_cons_self) fun i _ => ⟨0, by grind⟩
/-- p is a prime as far as inverses go -/
def PInv (p : Int) : Prop := 1 < p ∧ ∀ a : Int, ¬ p ∣ a → ∃ b : Int, p ∣ a * b - 1
theorem InSp.swap {R : List Row} {a b : Row} (hp : PInv p) (h : InSp p L (a :: R) b) (n : ¬ InSp p L R b) : InSp p L (b :: R) a := by
  obtain ⟨c, hc⟩ := InSp.cons_iff.mp h
  by_cases d : p ∣ c
  · refine absurd (hc.cong fun i _ => ?_) n
    obtain ⟨k, e⟩ := d
    exact ⟨k * a i, by grind⟩
  · obtain ⟨u, k, e⟩ := hp.2 c d
    refine InSp.lin u (-u) (InSp.mem (r := b) List.mem_cons_self) (hc.mono fun r m => List.mem_cons_of_mem _ m) fun i _ => ?_
    exact ⟨- k * a i, by grind⟩
theorem InSp.nil_iff {x : Row} : InSp p L [] x ↔ ∀ i, i < L → p ∣ x i := by
  constructor
  · rintro ⟨ws, h⟩ i hi
    have := h i hi
    rw [comb_nil, Int.sub_zero] at this
    exact this
  · exact InSp.zero
/-! ### dimension, counted from the front -/
open Classical in
theorem one_iff {P Q : Prop} (h : P ↔ Q) : (if P then 0 else 1 : Nat) = if Q then 0 else 1 := by
  by_cases p : P
  · rw [if_pos p, if_pos (h.mp p)]
  · rw [if_neg p, if_neg fun q => p (h.mpr q)]
open Classical in
noncomputable def dimA (p : Int) (L : Nat) (A : List Row) : List Row → Nat
  | [] => 0
  | r :: R => (if InSp p L A r then 0 else 1) + dimA p L (r :: A) R
noncomputable def dim (p : Int) (L : Nat) (R : List Row) : Nat := dimA p L [] R
theorem dimA_cong : ∀ (R : List Row) {A B : List Row}, (∀ x, InSp p L A x ↔ InSp p L B x) → dimA p L A R = dimA p L B R
  | [], _, _, _ => rfl
  | r :: R, A, B, h => by
    rw [dimA, dimA]
    rw [one_iff (h r)]
    rw [dimA_cong R (A := r :: A) (B := r :: B) fun x => ?_]
    rw [InSp.cons_iff, InSp.cons_iff]
    exact ⟨fun ⟨c, z⟩ => ⟨c, (h _).mp z⟩, fun ⟨c, z⟩ => ⟨c, (h _).mpr z⟩⟩
theorem sp_perm2 {A : List Row} {a b x : Row} (h : InSp p L (a :: b :: A) x) : InSp p L (b :: a :: A) x := h.mono fun r m => by
  simp only [List.mem_cons] at m ⊢
  rcases m with m | m | m
  · exact .inr (.inl m)
  · exact .inl m
  · exact .inr (.inr m)
theorem dimA_swap (hp : PInv p) (A R : List Row) (a b : Row) : dimA p L A (a :: b :: R) = dimA p L A (b :: a :: R) := by
  rw [dimA, dimA, dimA, dimA]
  rw [dimA_cong R (A := b :: a :: A) (B := a :: b :: A) fun x => ⟨sp_perm2, sp_perm2⟩]
  have m1 : InSp p L A b → InSp p L (a :: A) b := fun h => h.mono fun r m => List.mem_cons_of_mem _ m
  have m2 : InSp p L A a → InSp p L (b :: A) a := fun h => h.mono fun r m => List.mem_cons_of_mem _ m
  by_cases ha : InSp p L A a
  · by_cases hb : InSp p L A b
    · simp only [if_pos ha, if_pos hb, if_pos (m1 hb), if_pos (m2 ha)]
    · have n : ¬ InSp p L (a :: A) b := fun z => hb (z.into fun r m => by
        rcases List.mem_cons.mp m with rfl | m
        · exact ha
        · exact InSp.mem m)
      simp only [if_pos ha, if_neg hb, if_neg n, if_pos (m2 ha)]
      omega
  · by_cases hb : InSp p L A b
    · have n : ¬ InSp p L (b :: A) a := fun z => ha (z.into fun r m => by
        rcases List.mem_cons.mp m with rfl | m
        · exact hb
        · exact InSp.mem m)
      simp only [if_neg ha, if_pos hb, if_pos (m1 hb), if_neg n]
      omega
    · by_cases h : InSp p L (a :: A) b
      · simp only [if_neg ha, if_neg hb, if_pos h, if_pos (h.swap hp hb)]
      · have n : ¬ InSp p L (b :: A) a := fun z => h (z.swap hp ha)
        simp only [if_neg ha, if_neg hb, if_neg h, if_neg n]
theorem dimA_front (hp : PInv p) : ∀ (R A : List Row) (r : Row), dimA p L A (R ++ [r]) = dimA p L A (r :: R)
  | [], A, r => rfl
  | a :: R, A, r => by
    rw [dimA_swap hp, List.cons_append, dimA, dimA_front hp R (a :: A) r]
    conv => rhs; rw [dimA]
open Classical in
theorem dimA_back : ∀ (R A : List Row) (r : Row), dimA p L A (R ++ [r]) = dimA p L A R + (if InSp p L (R ++ A) r then 0 else 1)
  | [], A, r => by
    show dimA p L A [r] = dimA p L A [] + _
    rw [dimA, dimA, dimA]
    simp
  | a :: R, A, r => by
    rw [List.cons_append, dimA, dimA_back R (a :: A) r, dimA]
    have e : InSp p L (R ++ a :: A) r = InSp p L (a :: R ++ A) r := propext (by
      have k : ∀ {S T : List Row}, (∀ x, x ∈ S → x ∈ T) → InSp p L S r → InSp p L T r := fun h z => z.mono h
      exact ⟨k (by intro x m; simp only [List.cons_append, List.mem_cons, List.mem_append] at m ⊢; rcases m with m | m | m <;> simp [m]), k (by intro x m; simp only [List.cons_append, List.mem_cons, List.mem_append] at m ⊢; rcases m with m | m | m <;> simp [m])⟩)
    simp only [e]
    omega
open Classical in
theorem dim_back (R : List Row) (r : Row) : dim p L (R ++ [r]) = dim p L R + (if InSp p L R r then 0 else 1) := by
  have := dimA_back (p := p) (L := L) R [] r
  rw [List.append_nil] at this
  exact this
theorem dim_zero (hp : PInv p) {R : List Row} {r : Row} (h : ∀ i, i < L → p ∣ r i) : dim p L (R ++ [r]) = dim p L R := by
  rw [dim_back, if_pos (InSp.zero h)]
  rfl
/-- f takes a multiple of r away, such that place k becomes 0 -/
theorem sp_red {r : Row} {f : Row → Row} {k : Nat} (hp : PInv p) (hk : k < L) (hr : ¬ p ∣ r k) (hf : ∀ x, ∃ c : Int, ∀ i, i < L → p ∣ f x i - (x i - c * r i)) (h0 : ∀ x, p ∣ f x k) {A : List Row} {x : Row} :
    InSp p L (A ++ [r]) x ↔ InSp p L (A.map f) (f x) := by
  constructor
  · intro h
    -- all in terms of f and r
    have h1 : InSp p L (r :: A.map f) (f x) := by
      obtain ⟨c, hc⟩ := hf x
      refine InSp.lin (x := x) (y := r) 1 (-c) (h.into fun a m => ?_) (InSp.mem List.mem_cons_self) fun i hi => ?_
      · rcases List.mem_append.mp m with m | m
        · obtain ⟨c, hc⟩ := hf a
          refine InSp.lin (x := f a) (y := r) 1 c (InSp.mem (List.mem_cons_of_mem _ (List.mem_map_of_mem m))) (InSp.mem List.mem_cons_self) fun i hi => ?_
          obtain ⟨u, e⟩ := hc i hi
          exact ⟨-u, by grind⟩
        · rw [List.mem_singleton.mp m]
          exact InSp.mem List.mem_cons_self
      · obtain ⟨u, e⟩ := hc i hi
        exact ⟨u, by grind⟩
    obtain ⟨c, hc⟩ := InSp.cons_iff.mp h1
    have key : p ∣ c * r k := by
      obtain ⟨ws, hw⟩ := hc
      obtain ⟨u, e⟩ := hw k hk
      obtain ⟨v, e2⟩ := h0 x
      have z : ∀ (B : List Row) (ws : List Int), p ∣ comb ws (B.map f) k := by
        intro B
        induction B with
        | nil =>
          intro ws
          show p ∣ comb ws [] k
          rw [comb_nil]
          exact Int.dvd_zero _
        | cons b B ih =>
          intro ws
          cases ws with
          | nil => rw [comb_nilL]; exact Int.dvd_zero _
          | cons w ws =>
            rw [List.map_cons, comb]
            exact Int.dvd_add (Int.dvd_mul_of_dvd_right (h0 b)) (ih ws)
      obtain ⟨t, e3⟩ := z A ws
      exact ⟨v - u - t, by grind⟩
    have hc0 : p ∣ c := by
      obtain ⟨b, m, e⟩ := hp.2 _ hr
      obtain ⟨n, e2⟩ := key
      exact ⟨n * b - c * m, by grind⟩
    refine hc.cong fun i _ => ?_
    obtain ⟨n, e⟩ := hc0
    exact ⟨n * r i, by grind⟩
  · intro h
    obtain ⟨c, hc⟩ := hf x
    refine InSp.lin (x := f x) (y := r) 1 c (h.into fun b m => ?_) (InSp.mem (List.mem_append_right _ List.mem_cons_self)) fun i hi => ?_
    · obtain ⟨a, ma, rfl⟩ := List.mem_map.mp m
      obtain ⟨c, hc⟩ := hf a
      refine InSp.lin (x := a) (y := r) 1 (-c) (InSp.mem (List.mem_append_left _ ma)) (InSp.mem (List.mem_append_right _ List.mem_cons_self)) fun i hi => ?_
      obtain ⟨u, e⟩ := hc i hi
      exact ⟨u, by grind⟩
    · obtain ⟨u, e⟩ := hc i hi
      exact ⟨-u, by grind⟩
theorem dimA_red {r : Row} {f : Row → Row} {k : Nat} (hp : PInv p) (hk : k < L) (hr : ¬ p ∣ r k) (hf : ∀ x, ∃ c : Int, ∀ i, i < L → p ∣ f x i - (x i - c * r i)) (h0 : ∀ x, p ∣ f x k) : ∀ (R A : List Row), dimA p L (A ++ [r]) R = dimA p L (A.map f) (R.map f)
  | [], A => rfl
  | a :: R, A => by
    rw [dimA, List.map_cons, dimA]
    have ih := dimA_red hp hk hr hf h0 R (a :: A)
    rw [List.cons_append, List.map_cons] at ih
    rw [ih]
    rw [one_iff (sp_red hp hk hr hf h0)]
theorem dim_red {r : Row} {f : Row → Row} {k : Nat} (hp : PInv p) (hk : k < L) (hr : ¬ p ∣ r k) (hf : ∀ x, ∃ c : Int, ∀ i, i < L → p ∣ f x i - (x i - c * r i)) (h0 : ∀ x, p ∣ f x k) (R : List Row) : dim p L (R ++ [r]) = 1 + dim p L (R.map f) := by
  unfold dim
  rw [dimA_front hp, dimA, if_neg fun z => hr (InSp.nil_iff.mp z k hk)]
  have := dimA_red hp hk hr hf h0 R []
  rw [List.nil_append] at this
  rw [this]
  rfl
end
end Lj
set_option linter.all false
namespace Lj
/-! ### inverses by powers, as the law finds them -/
def pmg : Nat → Nat → Nat → Nat → Nat → Nat
  | 0, _, f, _, _ => f
  | n + 1, q, f, b, l => bif Nat.beq l 0 then f else pmg n q (bif Nat.beq (l % 2) 1 then f * b % q else f) (b * b % q) (l / 2)
def prsN : List Nat := [2, 3, 5, 7, 11, 13, 97, 251, 9973, 10007]
def pmOk (q : Nat) : Bool := (List.range q).all fun a => Nat.beq a 0 || Nat.beq (a * pmg 14 q 1 a (q - 2) % q) 1
theorem pm_ok : (prsN.all pmOk) = true := by decide +kernel
theorem pmg_zero (n q f b : Nat) : pmg n q f b 0 = f := by
  cases n with
  | zero => rfl
  | succ n => rfl
theorem pmg_step (n q f b l : Nat) (h : l ≠ 0) : pmg (n + 1) q f b l = pmg n q (if l % 2 = 1 then f * b % q else f) (b * b % q) (l / 2) := by
  rw [pmg]
  have e : Nat.beq l 0 = false := by
    cases z : Nat.beq l 0 with
    | false => rfl
    | true => exact absurd (Nat.eq_of_beq_eq_true z) h
  rw [e]
  by_cases c : l % 2 = 1
  · rw [if_pos c, c]
    rfl
  · have e2 : Nat.beq (l % 2) 1 = false := by
      cases z : Nat.beq (l % 2) 1 with
      | false => rfl
      | true => exact absurd (Nat.eq_of_beq_eq_true z) c
    rw [if_neg c, e2]
    rfl
theorem pm_inv {q a : Nat} (hq : q ∈ prsN) (h0 : 0 < a) (h1 : a < q) : a * pmg 14 q 1 a (q - 2) % q = 1 := by
  have k := List.all_eq_true.mp (List.all_eq_true.mp pm_ok q hq) a (List.mem_range.mpr h1)
  rw [Bool.or_eq_true] at k
  rcases k with k | k
  · exact absurd (Nat.eq_of_beq_eq_true k) (by omega)
  · exact Nat.eq_of_beq_eq_true k
theorem pinv_prs {q : Int} (hq : q ∈ prsN.map fun n : Nat => (n : Int)) : PInv q := by
  obtain ⟨n, hn, rfl⟩ := List.mem_map.mp hq
  have n1 : 1 < n := by
    have z : (prsN.all fun n => decide (1 < n)) = true := by decide
    exact of_decide_eq_true (List.all_eq_true.mp z n hn)
  refine ⟨by omega, fun a ha => ?_⟩
  have m0 := Int.emod_nonneg a (show (n : Int) ≠ 0 by omega)
  have m1 := Int.emod_lt_of_pos a (show (0 : Int) < n by omega)
  have mz : a % n ≠ 0 := fun z => ha (Int.dvd_of_emod_eq_zero z)
  have k := pm_inv hn (a := (a % n).toNat) (by omega) (by omega)
  generalize pmg 14 n 1 (a % n).toNat (n - 2) = b at k
  refine ⟨(b : Int), ?_⟩
  have e1 : ((a % n).toNat * b : Nat) = n * ((a % n).toNat * b / n) + 1 := by
    have := Nat.div_add_mod ((a % n).toNat * b) n
    omega
  have e3 : (((a % n).toNat : Nat) : Int) = a % n := Int.toNat_of_nonneg m0
  generalize (a % n).toNat * b / n = z at e1
  have e2 : (a % n) * (b : Int) = (n : Int) * (z : Int) + 1 := by
    rw [← e3, ← Int.natCast_mul, e1, Int.natCast_add, Int.natCast_mul]
    rfl
  have e4 := Int.emod_def a n
  rw [e4] at e2
  exact ⟨(z : Int) + a / n * b, by grind⟩
/-! ### sums, dot products -/
def sumF (f : Nat → Int) : Nat → Int
  | 0 => 0
  | n + 1 => sumF f n + f n
theorem sumF_cong {f g : Nat → Int} : ∀ {n : Nat}, (∀ k, k < n → f k = g k) → sumF f n = sumF g n
  | 0, _ => rfl
  | n + 1, h => by rw [sumF, sumF, sumF_cong fun k hk => h k (Nat.lt_succ_of_lt hk), h n (Nat.lt_succ_self n)]
theorem sumF_add (f : Nat → Int) (a : Nat) : ∀ b : Nat, sumF f (a + b) = sumF f a + sumF (fun i => f (a + i)) b
  | 0 => by rw [sumF, Nat.add_zero, Int.add_zero]
  | b + 1 => by rw [← Nat.add_assoc, sumF, sumF_add f a b, sumF]; omega
theorem sumF_zero {f : Nat → Int} : ∀ {n : Nat}, (∀ k, k < n → f k = 0) → sumF f n = 0
  | 0, _ => rfl
  | n + 1, h => by rw [sumF, sumF_zero fun k hk => h k (Nat.lt_succ_of_lt hk), h n (Nat.lt_succ_self n)]; rfl
theorem sumF_dvd {p : Int} {f g : Nat → Int} : ∀ {n : Nat}, (∀ k, k < n → p ∣ f k - g k) → p ∣ sumF f n - sumF g n
  | 0, _ => ⟨0, by rw [sumF, sumF]; omega⟩
  | n + 1, h => by
    obtain ⟨a, ha⟩ := sumF_dvd (n := n) fun k hk => h k (Nat.lt_succ_of_lt hk)
    obtain ⟨b, hb⟩ := h n (Nat.lt_succ_self n)
    exact ⟨a + b, by rw [sumF, sumF]; grind⟩
theorem sumF_lin (a b : Int) (f g : Nat → Int) : ∀ n : Nat, sumF (fun k => a * f k + b * g k) n = a * sumF f n + b * sumF g n
  | 0 => by rw [sumF, sumF, sumF]; omega
  | n + 1 => by rw [sumF, sumF, sumF, sumF_lin a b f g n]; grind
def dot (n : Nat) (e v : Nat → Int) : Int := sumF (fun k => e k * v k) n
theorem dot_lin {p a b : Int} {n : Nat} {e f g v : Nat → Int} (h : ∀ k, k < n → p ∣ e k - (a * f k + b * g k)) : p ∣ dot n e v - (a * dot n f v + b * dot n g v) := by
  unfold dot
  rw [← sumF_lin]
  refine sumF_dvd fun k hk => ?_
  obtain ⟨m, hm⟩ := h k hk
  exact ⟨m * v k, by grind⟩
/-- e begins at c, with 1 -/
def Begins (c : Nat) (e : Nat → Int) : Prop := (∀ k, k < c → e k = 0) ∧ e c = 1
theorem dot_begins {n c : Nat} {e v : Nat → Int} (h : Begins c e) (hc : c < n) : dot n e v = v c + sumF (fun i => e (c + 1 + i) * v (c + 1 + i)) (n - (c + 1)) := by
  unfold dot
  obtain ⟨m, rfl⟩ : ∃ m, n = c + 1 + m := ⟨n - (c + 1), by omega⟩
  rw [sumF_add, sumF, sumF_zero fun k hk => by rw [h.1 k hk, Int.zero_mul], h.2, show c + 1 + m - (c + 1) = m by omega]
  omega
theorem dot_last {n c : Nat} {e v : Nat → Int} (h : Begins c e) (hc : c < n) (hv : ∀ k, c < k → k < n → v k = 0) : dot n e v = v c := by
  rw [dot_begins h hc, sumF_zero fun k hk => by rw [hv _ (by omega) (by omega), Int.mul_zero]]
  omega
/-! ### weights of rows: what the equations say -/
/-- the weights ws, then -1 -/
def ext (m : Nat) (w : Nat → Int) : Nat → Int := fun k => if k < m then w k else -1
/-- the sum of rows by index -/
theorem comb_sum : ∀ (ws : List Int) (R : List Row) (i : Nat), ws.length = R.length → comb ws R i = sumF (fun k => (R.getD k fun _ => 0) i * ws.getD k 0) R.length
  | [], [], i, _ => rfl
  | w :: ws, r :: R, i, h => by
    rw [comb, comb_sum ws R i (by simpa using h), List.length_cons, Nat.add_comm R.length 1, sumF_add, sumF, sumF]
    simp only [Nat.add_comm 1, List.getD_cons_succ, List.getD_cons_zero]
    grind
/-- a combination may be given as many weights as there are rows -/
theorem comb_pad : ∀ (ws : List Int) (R : List Row), ∃ vs : List Int, vs.length = R.length ∧ ∀ i, comb vs R i = comb ws R i
  | ws, [] => ⟨[], rfl, fun i => by rw [comb_nil, comb_nil]⟩
  | [], r :: R => by
    obtain ⟨vs, h, e⟩ := comb_pad [] R
    refine ⟨0 :: vs, by simp [h], fun i => ?_⟩
    rw [comb, e, comb_nilL, comb_nilL]
    omega
  | w :: ws, r :: R => by
    obtain ⟨vs, h, e⟩ := comb_pad ws R
    refine ⟨w :: vs, by simp [h], fun i => ?_⟩
    rw [comb, comb, e]
theorem InSp.sum {p : Int} {L : Nat} {R : List Row} {x : Row} : InSp p L R x ↔ ∃ w : Nat → Int, ∀ i, i < L → p ∣ x i - sumF (fun k => (R.getD k fun _ => 0) i * w k) R.length := by
  constructor
  · rintro ⟨ws, h⟩
    obtain ⟨vs, hl, e⟩ := comb_pad ws R
    refine ⟨fun k => vs.getD k 0, fun i hi => ?_⟩
    rw [← comb_sum vs R i hl, e]
    exact h i hi
  · rintro ⟨w, h⟩
    refine ⟨(List.range R.length).map w, fun i hi => ?_⟩
    rw [comb_sum _ R i (by simp)]
    have e : sumF (fun k => (R.getD k fun _ => 0) i * ((List.range R.length).map w).getD k 0) R.length = sumF (fun k => (R.getD k fun _ => 0) i * w k) R.length := sumF_cong fun k hk => by
      rw [List.getD_eq_getElem?_getD (l := (List.range R.length).map w), List.getElem?_map, List.getElem?_range hk]
      rfl
    rw [e]
    exact h i hi
/-- the coefficients of place i: one for each row, then the right side -/
def eqn (R : List Row) (x : Row) (i : Nat) : Nat → Int := fun k => if k < R.length then (R.getD k fun _ => 0) i else x i
theorem dot_eqn (R : List Row) (x : Row) (i : Nat) (w : Nat → Int) : dot (R.length + 1) (eqn R x i) (ext R.length w) = sumF (fun k => (R.getD k fun _ => 0) i * w k) R.length - x i := by
  unfold dot
  rw [sumF]
  have e : sumF (fun k => eqn R x i k * ext R.length w k) R.length = sumF (fun k => (R.getD k fun _ => 0) i * w k) R.length := sumF_cong fun k hk => by
    unfold eqn ext
    rw [if_pos hk, if_pos hk]
  rw [e]
  unfold eqn ext
  rw [if_neg (Nat.lt_irrefl _), if_neg (Nat.lt_irrefl _)]
  omega
/-- what is known of the leading equations: lead c e says that e leads at c -/
structure Lead (p : Int) (R : List Row) (x : Row) (L : Nat) (lead : Nat → (Nat → Int) → Prop) : Prop where
  bg : ∀ c e, lead c e → c ≤ R.length ∧ Begins c e
  same : ∀ v : Nat → Int, (∀ i, i < L → p ∣ dot (R.length + 1) (eqn R x i) v) ↔ ∀ c e, lead c e → p ∣ dot (R.length + 1) e v
theorem Lead.none {p : Int} {R : List Row} {x : Row} {L : Nat} {lead : Nat → (Nat → Int) → Prop} (h : Lead p R x L lead) (hp : 1 < p) {e : Nat → Int} (k : lead R.length e) : ¬ InSp p L R x := by
  intro z
  obtain ⟨w, hw⟩ := InSp.sum.mp z
  have y := (h.same (ext R.length w)).mp (fun i hi => by
    rw [dot_eqn]
    obtain ⟨a, ha⟩ := hw i hi
    exact ⟨-a, by grind⟩) _ _ k
  rw [dot_last (h.bg _ _ k).2 (by omega) (fun j h1 h2 => by omega)] at y
  unfold ext at y
  rw [if_neg (Nat.lt_irrefl _)] at y
  obtain ⟨a, ha⟩ := y
  have : p ∣ 1 := ⟨-a, by grind⟩
  have := Int.le_of_dvd (by decide) this
  omega
theorem Lead.some {p : Int} {R : List Row} {x : Row} {L : Nat} {lead : Nat → (Nat → Int) → Prop} (h : Lead p R x L lead) {w : Nat → Int} (k : ∀ c e, lead c e → p ∣ dot (R.length + 1) e (ext R.length w)) : ∀ i, i < L → p ∣ x i - sumF (fun k => (R.getD k fun _ => 0) i * w k) R.length := by
  intro i hi
  have y := (h.same _).mpr k i hi
  rw [dot_eqn] at y
  obtain ⟨a, ha⟩ := y
  exact ⟨-a, by grind⟩
theorem Lead.new {p : Int} {R : List Row} {x : Row} {L : Nat} {lead : Nat → (Nat → Int) → Prop} (h : Lead p R x L lead) (hp : 1 < p) {c : Nat} {e : Nat → Int} (k : lead c e) (hc : c < R.length) : ¬ InSp p L (R.take c) (R.getD c fun _ => 0) := by
  intro z
  obtain ⟨w, hw⟩ := InSp.sum.mp z
  have lt : (R.take c).length = c := by rw [List.length_take]; omega
  rw [lt] at hw
  have y := (h.same (fun j => if j < c then w j else if j = c then -1 else 0)).mp (fun i hi => by
    obtain ⟨a, ha⟩ := hw i hi
    have e0 : dot (R.length + 1) (eqn R x i) (fun j => if j < c then w j else if j = c then -1 else 0) = sumF (fun k => ((R.take c).getD k fun _ => 0) i * w k) c - (R.getD c fun _ => 0) i := by
      unfold dot
      obtain ⟨m, hm⟩ : ∃ m, R.length + 1 = c + 1 + m := ⟨R.length - c, by omega⟩
      rw [hm, sumF_add, sumF]
      have z1 : sumF (fun i_1 => eqn R x i (c + 1 + i_1) * if c + 1 + i_1 < c then w (c + 1 + i_1) else if c + 1 + i_1 = c then -1 else 0) m = 0 := sumF_zero fun k _ => by
        rw [if_neg (by omega), if_neg (by omega), Int.mul_zero]
      have z2 : sumF (fun k => eqn R x i k * if k < c then w k else if k = c then -1 else 0) c = sumF (fun k => ((R.take c).getD k fun _ => 0) i * w k) c := sumF_cong fun k hk => by
        rw [if_pos hk]
        unfold eqn
        rw [if_pos (by omega), List.getD_eq_getElem?_getD, List.getD_eq_getElem?_getD, List.getElem?_take_of_lt hk]
      rw [z1, z2]
      have z3 : (if c < c then w c else if c = c then -1 else 0 : Int) = -1 := by rw [if_neg (Nat.lt_irrefl _), if_pos rfl]
      have z4 : eqn R x i c = (R.getD c fun _ => 0) i := by
        unfold eqn
        rw [if_pos hc]
      show _ + eqn R x i c * (if c < c then w c else if c = c then -1 else 0) + 0 = _
      rw [z3, z4]
      omega
    exact ⟨-a, by rw [e0]; grind⟩) _ _ k
  rw [dot_last (h.bg _ _ k).2 (by omega) (fun j h1 h2 => by rw [if_neg (by omega), if_neg (by omega)]), if_neg (Nat.lt_irrefl _), if_pos rfl] at y
  obtain ⟨a, ha⟩ := y
  have : p ∣ 1 := ⟨-a, by grind⟩
  have := Int.le_of_dvd (by decide) this
  omega
/-! ### weights are unique -/
/-- the weights of x: field elements, 0 where a row is a combination of those before it -/
structure Wts (p : Int) (L : Nat) (R : List Row) (x : Row) (w : List Int) : Prop where
  len : w.length = R.length
  bd : ∀ a ∈ w, 0 ≤ a ∧ a < p
  sum : ∀ i, i < L → p ∣ x i - sumF (fun k => (R.getD k fun _ => 0) i * w.getD k 0) R.length
  nz : ∀ c, c < R.length → w.getD c 0 ≠ 0 → ¬ InSp p L (R.take c) (R.getD c fun _ => 0)
theorem Wts.uniq {p : Int} {L : Nat} {R : List Row} {x : Row} {w u : List Int} (hp : PInv p) (a : Wts p L R x w) (b : Wts p L R x u) : w = u := by
  refine Classical.byContradiction fun ne => ?_
  -- the last place where they differ
  have key : ∀ n, n ≤ R.length → (∀ k, n ≤ k → k < R.length → w.getD k 0 = u.getD k 0) → False := by
    intro n
    induction n with
    | zero =>
      intro _ h
      refine ne (List.ext_getElem (by rw [a.len, b.len]) fun k h1 h2 => ?_)
      have := h k (Nat.zero_le _) (by rw [← a.len]; exact h1)
      rw [List.getD_eq_getElem?_getD, List.getD_eq_getElem?_getD, List.getElem?_eq_getElem h1, List.getElem?_eq_getElem h2] at this
      exact this
    | succ n ih =>
      intro hn h
      refine ih (by omega) fun k h1 h2 => ?_
      by_cases e : k = n
      · subst e
        refine Classical.byContradiction fun d => ?_
        have bd : ∀ {v : List Int}, (∀ a ∈ v, 0 ≤ a ∧ a < p) → k < v.length → 0 ≤ v.getD k 0 ∧ v.getD k 0 < p := fun {v} hv hk => by
          rw [List.getD_eq_getElem?_getD, List.getElem?_eq_getElem hk]
          exact hv _ (List.getElem_mem hk)
        have b1 := bd a.bd (by rw [a.len]; omega)
        have b2 := bd b.bd (by rw [b.len]; omega)
        have nd : ¬ p ∣ w.getD k 0 - u.getD k 0 := fun z => by
          have p1 := hp.1
          rcases Int.lt_trichotomy (w.getD k 0 - u.getD k 0) 0 with q | q | q
          · have := Int.le_of_dvd (a := p) (b := u.getD k 0 - w.getD k 0) (by omega) (by obtain ⟨m, hm⟩ := z; exact ⟨-m, by grind⟩)
            omega
          · omega
          · have := Int.le_of_dvd q z
            omega
        obtain ⟨t, m, hm⟩ := hp.2 _ nd
        have dep : InSp p L (R.take k) (R.getD k fun _ => 0) := by
          refine InSp.sum.mpr ⟨fun j => -t * (w.getD j 0 - u.getD j 0), fun i hi => ?_⟩
          have lt : (R.take k).length = k := by rw [List.length_take]; omega
          rw [lt]
          obtain ⟨m1, e1⟩ := a.sum i hi
          obtain ⟨m2, e2⟩ := b.sum i hi
          have split : ∀ v : List Int, sumF (fun j => (R.getD j fun _ => 0) i * v.getD j 0) R.length = sumF (fun j => (R.getD j fun _ => 0) i * v.getD j 0) k + (R.getD k fun _ => 0) i * v.getD k 0 + sumF (fun j => (R.getD (k + 1 + j) fun _ => 0) i * v.getD (k + 1 + j) 0) (R.length - (k + 1)) := fun v => by
            have e : R.length = k + 1 + (R.length - (k + 1)) := by omega
            conv => lhs; rw [e, sumF_add, sumF]
          rw [split w] at e1
          rw [split u] at e2
          have tail : sumF (fun j => (R.getD (k + 1 + j) fun _ => 0) i * w.getD (k + 1 + j) 0) (R.length - (k + 1)) = sumF (fun j => (R.getD (k + 1 + j) fun _ => 0) i * u.getD (k + 1 + j) 0) (R.length - (k + 1)) := sumF_cong fun j hj => by
            rw [h (k + 1 + j) (by omega) (by omega)]
          rw [tail] at e1
          have front : sumF (fun j => ((R.take k).getD j fun _ => 0) i * (-t * (w.getD j 0 - u.getD j 0))) k = -t * sumF (fun j => (R.getD j fun _ => 0) i * w.getD j 0) k + t * sumF (fun j => (R.getD j fun _ => 0) i * u.getD j 0) k := by
            rw [← sumF_lin]
            refine sumF_cong fun j hj => ?_
            have : (R.take k).getD j (fun _ => 0) = R.getD j fun _ => 0 := by
              rw [List.getD_eq_getElem?_getD, List.getD_eq_getElem?_getD, List.getElem?_take_of_lt hj]
            rw [this]
            grind
          rw [front]
          generalize sumF (fun j => (R.getD j fun _ => 0) i * w.getD j 0) k = A at *
          generalize sumF (fun j => (R.getD j fun _ => 0) i * u.getD j 0) k = B at *
          generalize sumF (fun j => (R.getD (k + 1 + j) fun _ => 0) i * u.getD (k + 1 + j) 0) (R.length - (k + 1)) = C at *
          generalize w.getD k 0 = W at *
          generalize u.getD k 0 = U at *
          generalize (R.getD k fun _ => 0) i = r at *
          generalize x i = y at *
          clear split tail front
          exact ⟨t * m2 - t * m1 - r * m, by grind⟩
        have z1 : w.getD k 0 = 0 := Classical.byContradiction fun z => a.nz k h2 z dep
        have z2 : u.getD k 0 = 0 := Classical.byContradiction fun z => b.nz k h2 z dep
        exact d (z1.trans z2.symm)
      · exact h k (by omega) h2
  exact key R.length (Nat.le_refl _) fun k h1 h2 => by omega
theorem Wts.in_sp {p : Int} {L : Nat} {R : List Row} {x : Row} {w : List Int} (a : Wts p L R x w) : InSp p L R x := InSp.sum.mpr ⟨fun k => w.getD k 0, a.sum⟩
end Lj
set_option Elab.async false
set_option linter.all false
set_option maxRecDepth 100000
set_option maxHeartbeats 1000000
namespace Lj
open PySem PySem.Spec PyProof.Rows L2
/-! ### sorted(d, reverse=b), d a dict with int keys -/
def rSortDR (b : Bool) : List V → List V → Hp → VK → Prop := fun vs zs H Q => ∃ (a : Addr) (kvs : List (Key × V)) (ks : List Int), vs = [.ref a] ∧ zs = [.bl b] ∧ Rd H a (.dK kvs) ∧ kvs.map (·.1) = ks.map Sum.inl ∧ ks.length ≤ 1000 ∧
  ∀ (ys : List Int) (p : Addr), ys.Perm ks → OrdB b ys → H p = none → Q (.ref p) (upd H p (.lst (ys.map V.int)))
theorem cr_sortDR {X : Cx} {b : Bool} (calm : X.calm = true) : CallRK X (.builtin "sorted") [Str.ofString "reverse"] (rSortDR b) := by
  intro pins s σ H vs zs us ws Q I r rz h
  obtain ⟨a, kvs, ks, rfl, rfl, hd, hk, hl, q⟩ := h
  obtain rfl := Vals.ref1 r
  obtain ⟨w1, rfl, e1⟩ := vals1 rz
  obtain rfl : w1 = Value.bool b := e1
  obtain ⟨z, lo, ps, rel, dd⟩ := dk_rd I.hok hd
  obtain ⟨ep, hat⟩ := dd.dictAt
  have keys : ps.map (·.1) = ks.map Sum.inl := rel.keys.symm.trans hk
  have len : ps.length = ks.length := by
    have e := congrArg List.length keys
    rw [List.length_map, List.length_map] at e
    exact e
  have line : ps.length ≤ sizeLine := by rw [len, sizeLine_eq]; omega
  refine PyProof.Rows.call_function_entry_kw PyProof.Rows.kind_sorted PyProof.Rows.plain_sorted PyProof.Rows.entry_sorted (PyProof.Rows.args_sorted_rev _ _) ?_
  unfold Builtin.«sorted»; refine wpAny_bind (m := checkCount "sorted" 1 1 _) (wpAny_pure ?_)
  refine wpAny_bind (PySem.W.kdu_collect (A := X.A.in1) (PySem.W.kdl_dict (knd := mixKind X.prog X.w) (kvs := ps) (ep := ep) lo) (I.ok.hd calm) hat line fun h' tk acc k ac => ?_)
  have al : acc.toList.length = ks.length := by rw [Array.length_toList, ac.1, len]
  have isI : IntsAre acc.toList ks := ints_each al fun j v e => by
    obtain ⟨x, y, g1, g2⟩ := ac.2 j v (by rw [← Array.getElem?_toList]; exact e)
    have g3 : (ps.map (·.1))[j]? = some x := by rw [List.getElem?_map, g1]; rfl
    rw [keys, List.getElem?_map] at g3
    cases g4 : ks[j]? with
    | none => rw [g4] at g3; cases g3
    | some i =>
      rw [g4] at g3
      have g5 : Sum.inl i = x := Option.some.inj g3
      subst g5
      rcases keyIs_shape (show keyIs (Sum.inl i) v = true from g2) with ⟨c, t, ek, ev⟩ | ⟨c, t, ek, ev⟩
      · cases ek
        exact ⟨i, t, rfl, ev⟩
      · cases ek
  have J : Inv X pins σ H { s with heap := h', toks := tk } := I.kept k
  have al2 : acc.toList.length ≤ sizeLine := by rw [al, sizeLine_eq]; omega
  refine wpAny_bind (wpAny_newList ?_ al2)
  have at_ : (h'.push (seqObj "list" acc.toList.toArray 0)).get? h'.objs.size = some (seqObj "list" acc.toList.toArray 0) := Heap.get?_push_size _ rfl
  show wpAny _ _ _ _ _ { s with heap := h'.push (seqObj "list" acc.toList.toArray 0), toks := tk }
  refine wpAny_bind (wpAny_holding (wpAny_call_entry_kw PyProof.Rows.slot_list_sort ⟨_, at_, rfl⟩ PyProof.Rows.entry_list_sort ?_ (PyProof.Rows.args_list_sort_rev _ _)))
  refine SrtR.list_sort_ordR (s := { s with heap := h'.push (seqObj "list" acc.toList.toArray 0), toks := tk }) SrtO.swo_int at_ al2 (fun h2 => SrtO.ints_sortable isI h2) fun out h1 h2 => ⟨_, rfl, ?_⟩
  obtain ⟨ys, k1, k2, k3⟩ := SrtR.ints_outR isI h1 h2
  obtain ⟨e', he'⟩ := PyProof.Rows.sortedHeap_at (vs := acc.toList) (out := (if b = true then out.toArray.reverse else out.toArray)) at_
  have hlen : (ys.map V.int).length ≤ sizeLine := by
    rw [List.length_map, k2.length_eq, sizeLine_eq]
    omega
  have e0 : ((if b = true then out.toArray.reverse else out.toArray).toList).toArray = (if b = true then out.toArray.reverse else out.toArray) := Array.toArray_toList ..
  refine wpAny_pure ⟨_, rfl, .ref h'.objs.size, upd H h'.objs.size (.lst (ys.map V.int)), J.laid (t' := tk) (fun c u e => ?_) (Nat.le_refl _) (show ObjOk X.prog X.w _ _ _ (.lst (ys.map V.int)) from ⟨hlen, _, e', vals_of_ints k1, by rw [e0]; exact he'⟩), rfl, q ys _ k2 k3 (J.hok.fresh (Nat.le_refl _))⟩
  have lt : c < h'.objs.size := Heap.lt_size e
  rw [PyProof.Rows.sortedHeap_old (Nat.ne_of_lt lt) (by rw [size_push']; exact Nat.lt_succ_of_lt lt)]
  exact Heap.get?_push_of_some _ e
end Lj
set_option Elab.async false
set_option linter.all false
set_option maxRecDepth 100000
namespace Lj
open PySem PySem.Spec PyProof.Rows L2
theorem div_ok {i j : Int} {k : Nat} (h0 : 0 < j) (h : j.natAbs < 2 ^ k) (k0 : 0 < k) (k1 : k ≤ 9000) : CDivP i j := ⟨h0, PyProof.noPylong_of_log2 (Nat.lt_of_lt_of_le (PySem.Flt.log2_lt_of k0 h) k1)⟩
/-! ### the last step that assigns a register -/
/-- the registers that an instruction assigns -/
def asgs (w : Str) (as : List Int) : List Int := if w = "swap" then as else if w = "write" then [] else as.take 1
def Tr.asg (x : Int) : Tr → Bool
  | .op w as => decide (x ∈ asgs w as)
  | .loop _ _ => false
def la (x : Int) : List Tr → Option Nat
  | [] => none
  | t :: r => match la x r with
    | some j => some (j + 1)
    | none => if t.asg x then some 0 else none
theorem la_append (x : Int) (ys : List Tr) : ∀ xs : List Tr, la x (xs ++ ys) = match la x ys with
    | some j => some (xs.length + j)
    | none => la x xs
  | [] => by
    show la x ys = _
    cases la x ys with
    | none => rfl
    | some j => show some j = some (0 + j); rw [Nat.zero_add]
  | t :: r => by
    show (match la x (r ++ ys) with | some j => some (j + 1) | none => if t.asg x then some 0 else none) = _
    rw [la_append x ys r]
    cases la x ys with
    | none => rfl
    | some j =>
      show some (r.length + j + 1) = some (r.length + 1 + j)
      congr 1
      omega
theorem la_flat (x : Int) (xs : List Tr) : ∀ n : Nat, la x (List.replicate n xs).flatten = match n, la x xs with
    | 0, _ => none
    | k + 1, some j => some (k * xs.length + j)
    | _ + 1, none => none
  | 0 => rfl
  | n + 1 => by
    rw [List.replicate_succ', List.flatten_append, List.flatten_cons, List.flatten_nil, List.append_nil, la_append]
    cases h : la x xs with
    | some j =>
      show some (((List.replicate n xs).flatten).length + j) = some (n * xs.length + j)
      rw [flat_len]
    | none =>
      show la x (List.replicate n xs).flatten = none
      rw [la_flat x xs n, h]
      cases n <;> rfl
/-- a prefix of a repeated list -/
theorem take_flat {α : Type} (xs : List α) (n k r : Nat) (hk : k < n) (hr : r ≤ xs.length) : ((List.replicate n xs).flatten).take (k * xs.length + r) = (List.replicate k xs).flatten ++ xs.take r := by
  obtain ⟨m, rfl⟩ : ∃ m, n = k + (m + 1) := ⟨n - k - 1, by omega⟩
  rw [← List.replicate_append_replicate, List.flatten_append, ← flat_len k xs, List.take_length_add_append, List.replicate_succ, List.flatten_cons, List.take_append_of_le_length hr]
theorem take_flat_all {α : Type} (xs : List α) (n : Nat) : ((List.replicate n xs).flatten).take (n * xs.length) = (List.replicate n xs).flatten := by
  rw [← flat_len n xs]
  exact List.take_length
/-- an optional number as a value -/
def optV : Option Nat → V
  | none => .non
  | some j => .int (j : Nat)
mutual
/-- each instruction but loops has arguments -/
def Tr.hasArgs : Tr → Prop
  | .op _ as => as ≠ []
  | .loop _ b => haveArgs b
def haveArgs : List Tr → Prop
  | [] => True
  | t :: r => t.hasArgs ∧ haveArgs r
end
theorem args_get : ∀ {b : List Tr} {i : Nat} {t : Tr}, haveArgs b → b[i]? = some t → t.hasArgs
  | [], _, _, _, e => by simp at e
  | t :: r, 0, u, h, e => by
    cases e
    rw [haveArgs] at h
    exact h.1
  | t :: r, i + 1, u, h, e => by
    rw [haveArgs] at h
    exact args_get (i := i) h.2 e
theorem GoodOp.args {p n : Int} {w : Str} {as : List Int} (h : GoodOp p n w as) : as ≠ [] := by
  rcases h with ⟨_, _, _, rfl, _⟩ | ⟨_, _, rfl, _⟩ | ⟨_, _, _, rfl, _⟩ | ⟨_, _, _, _, rfl, _⟩ <;> intro z <;> cases z
mutual
theorem Tr.made_args {G : Str → List Int → Prop} {R : Int → Prop} (hG : ∀ w as, G w as → as ≠ []) : ∀ (t : Tr) (l d : Nat), t.made G R l d → t.hasArgs
  | .op w as, l, d, h => by
    rw [Tr.made] at h
    rw [Tr.hasArgs]
    exact hG w as h
  | .loop k b, l, 0, h => by rw [Tr.made] at h; exact h.elim
  | .loop k b, l, d + 1, h => by
    rw [Tr.made] at h
    rw [Tr.hasArgs]
    exact mades_args hG b (l / 2) d h.2.2
theorem mades_args {G : Str → List Int → Prop} {R : Int → Prop} (hG : ∀ w as, G w as → as ≠ []) : ∀ (b : List Tr) (l d : Nat), mades G R b l d → haveArgs b
  | [], _, _, _ => by rw [haveArgs]; trivial
  | t :: r, l, d, h => by
    rw [mades] at h
    rw [haveArgs]
    exact ⟨Tr.made_args hG t l d h.1, mades_args hG r l d h.2⟩
end
theorem mades_drop {G : Str → List Int → Prop} {R : Int → Prop} : ∀ {b : List Tr} {l d : Nat}, mades G R b l d → mades G R (b.drop 1) l d
  | [], _, _, h => h
  | t :: r, l, d, h => by
    rw [mades] at h
    exact h.2
/-! ### slices of tuples -/
theorem cut_tail (x : V) (xs : List V) : cutV (x :: xs) (some 1) none = xs := by
  unfold cutV
  rw [show HT.sIx (x :: xs).length 0 (some 1) = min 1 (x :: xs).length from HT.sIx_nat _ _ 1, HT.sIx_none, List.length_cons, show min 1 (xs.length + 1) = 1 by omega]
  show (xs.take (xs.length + 1 - 1)) = xs
  rw [Nat.add_sub_cancel]
  exact List.take_length
theorem cut_tail_ne (x : V) (xs : List V) : ¬ (HT.sIx (x :: xs).length 0 (some 1) = 0 ∧ HT.sIx (x :: xs).length (x :: xs).length none = (x :: xs).length) := by
  rw [show HT.sIx (x :: xs).length 0 (some 1) = min 1 (x :: xs).length from HT.sIx_nat _ _ 1, List.length_cons, show min 1 (xs.length + 1) = 1 by omega]
  rintro ⟨h, _⟩
  cases h
theorem cut_one (x : V) (xs : List V) : cutV (x :: xs) (some 1) (some 2) = xs.take 1 := by
  unfold cutV
  rw [show HT.sIx (x :: xs).length 0 (some 1) = min 1 (x :: xs).length from HT.sIx_nat _ _ 1, show HT.sIx (x :: xs).length (x :: xs).length (some 2) = min 2 (x :: xs).length from HT.sIx_nat _ _ 2, List.length_cons, show min 1 (xs.length + 1) = 1 by omega]
  show xs.take (min 2 (xs.length + 1) - 1) = xs.take 1
  cases xs with
  | nil => rfl
  | cons y ys => rw [show min 2 ((y :: ys).length + 1) - 1 = 1 by rw [List.length_cons]; omega]
theorem cut_one_ne (x : V) (xs : List V) : ¬ (HT.sIx (x :: xs).length 0 (some 1) = 0 ∧ HT.sIx (x :: xs).length (x :: xs).length (some 2) = (x :: xs).length) := by
  rw [show HT.sIx (x :: xs).length 0 (some 1) = min 1 (x :: xs).length from HT.sIx_nat _ _ 1, List.length_cons, show min 1 (xs.length + 1) = 1 by omega]
  rintro ⟨h, _⟩
  cases h
theorem flat_ints (ns : List Int) : (ns.map V.int).all flatV = true := by
  induction ns with
  | nil => rfl
  | cons s r ih => exact ih
theorem inV_ints {z : Int} : ∀ {ss : List Int}, inV (.int z) (ss.map V.int) = decide (z ∈ ss)
  | [] => by
    show false = _
    rw [decide_eq_false (List.not_mem_nil)]
  | s :: r => by
    show (s == z || inV (.int z) (r.map V.int)) = _
    rw [inV_ints, Bool.eq_iff_iff, Bool.or_eq_true, decide_eq_true_iff, decide_eq_true_iff, List.mem_cons, beq_iff_eq]
    constructor
    · rintro (h | h)
      · exact .inl h.symm
      · exact .inr h
    · rintro (h | h)
      · exact .inl h.symm
      · exact .inr h
/-! ### promises -/
def spAsg (K : PySem.W.Frag) : Sp := fun vs H Q _ => ∃ (v : V) (w : Str) (as : List Int) (x : Int), vs = [v, .int x] ∧ TrAt K H (.op w as) v ∧ as ≠ [] ∧ ∀ H', Same H H' → Q (.bl (decide (x ∈ asgs w as))) H'
def spLA (K : PySem.W.Frag) (n : Nat) : Sp := fun vs H Q _ => ∃ (v : V) (b : List Tr) (m x : Int), vs = [v, .int m, .int x] ∧ BodyAt K H b v ∧ okB n b ∧ haveArgs b ∧ 0 ≤ m ∧ ∀ H', Same H H' → Q (optV (la x ((exs b).take m.toNat))) H'
def spLW (K : PySem.W.Frag) (n : Nat) : Sp := fun vs H Q _ => ∃ (v : V) (t : Tr) (m x : Int), vs = [v, .int m, .int x] ∧ TrAt K H t v ∧ okB (n + 1) [t] ∧ t.hasArgs ∧ 0 ≤ m ∧ m ≤ t.len ∧ ∀ H', Same H H' → Q (optV (la x (t.ex.take m.toNat))) H'
theorem la_one (x : Int) (w : Str) (as : List Int) : la x [.op w as] = if x ∈ asgs w as then some 0 else none := by
  show (if decide (x ∈ asgs w as) = true then some 0 else none) = _
  by_cases h : x ∈ asgs w as
  · rw [decide_eq_true h, if_pos h, if_pos rfl]
  · rw [decide_eq_false h, if_neg h, if_neg Bool.false_ne_true]
/-- within a loop -/
theorem la_loop (x : Int) (E : List Tr) (k m : Nat) (hE : 0 < E.length) (hm : m ≤ k * E.length) : la x (((List.replicate k E).flatten).take m) =
    match la x (E.take (m % E.length)) with
    | some j => some (m / E.length * E.length + j)
    | none => match m / E.length, la x E with
      | 0, _ => none
      | t + 1, some j => some (t * E.length + j)
      | _ + 1, none => none := by
  have hd := Nat.div_add_mod m E.length
  have hr := Nat.mod_lt m hE
  generalize m / E.length = t at hd
  generalize m % E.length = r at hd hr
  have e : ((List.replicate k E).flatten).take m = (List.replicate t E).flatten ++ E.take r := by
    rw [← hd, Nat.mul_comm]
    by_cases h : t < k
    · exact take_flat E k t r h (Nat.le_of_lt hr)
    · have h1 : k * E.length ≤ t * E.length := Nat.mul_le_mul_right _ (by omega)
      have h2 : t * E.length + r ≤ k * E.length := by rw [← hd, Nat.mul_comm] at hm; exact hm
      have h3 : r = 0 := by omega
      have h4 : t = k := by
        have := Nat.eq_of_mul_eq_mul_right hE (show t * E.length = k * E.length by omega)
        exact this
      subst h3 h4
      rw [Nat.add_zero, take_flat_all, List.take_zero, List.append_nil]
  rw [e, la_append]
  cases la x (E.take r) with
  | some j =>
    show some (((List.replicate t E).flatten).length + j) = _
    rw [flat_len]
  | none => exact la_flat x E t
end Lj
namespace Lj
open PySem PySem.Spec PyProof.Rows L2
theorem vals_snoc : ∀ {xs : List V} {us : List Value} {x : V} {u : Value}, Vals xs us → RelV x u → Vals (xs ++ [x]) (us ++ [u])
  | _, _, _, _, .nil, r => .cons r .nil
  | _, _, _, _, .cons a b, r => .cons a (vals_snoc b r)
theorem vals_rev : ∀ {xs : List V} {us : List Value}, Vals xs us → Vals xs.reverse us.reverse
  | _, _, .nil => .nil
  | _, _, .cons a b => by
    rw [List.reverse_cons, List.reverse_cons]
    exact vals_snoc (vals_rev b) a
end Lj
set_option Elab.async false
set_option linter.all false
set_option maxRecDepth 100000
set_option maxHeartbeats 1000000
namespace Lj
open PySem PySem.Spec PyProof.Rows L2
theorem un1 {k : Nat} {A : Around} (hr : Room k A) : A.units + 1 < cLine := by
  have := hr.un
  omega
theorem ifNN {c A B : Prop} [Decidable c] (h : c) (b : B) : if (!decide c) = true then A else B := by
  rw [decide_eq_true h]
  exact b
/-! ### a walk over a list or a tuple -/
theorem turn_to {P : Program} {w : World} {K : PySem.W.Frag} {tg : Expr} {J J' : It} {fp : List Addr} {it : Addr} {tn : Nat → Heap → Prop} (t : Turn P w K tg J fp it tn) (hg : ∀ i H, J'.go i H → J.go i H) (hy : ∀ i H x H', J'.go i H → J.yld i H x H' → J'.yld i H x H') (hs : ∀ i H, J'.stop i H → J.stop i H) : Turn P w K tg J' fp it tn where
  mem := t.mem
  obj := t.obj
  keep := t.keep
  item := fun X e1 e2 e3 e4 i pins s σ H E I fo st g => wpAny_mono (t.item X e1 e2 e3 e4 i pins s σ H E I fo st (hg i H g)) (fun r s1 ⟨u, eu, q⟩ => ⟨u, eu, wpAny_mono q (fun _ s2 ⟨x, H', I', rx, y, st', nn⟩ => ⟨x, H', I', rx, hy i H x H' g y, st', nn⟩) fun _ _ z => z⟩) fun _ _ z => z
  done := fun X e1 e2 e3 e4 i pins s σ H E I fo st g => t.done X e1 e2 e3 e4 i pins s σ H E I fo st (hs i H g)
  self := t.self
def ItG (G : Hp → Prop) (xs : List V) : It := ⟨fun i H => i < xs.length ∧ G H, fun i H x H' => H' = H ∧ xs[i]? = some x, fun i H => i = xs.length ∧ G H⟩
theorem walk_G2 {G : Hp → Prop} {xs : List V} : Walk (ItG G xs) xs.length G (YAt xs) := ⟨fun i _ hi q => ⟨hi, q⟩, fun _ q => ⟨rfl, q⟩, fun _ _ _ _ _ _ y => y⟩
/-- as long as G holds, xs stands at a, as a list or as a tuple -/
def SqG (K : PySem.W.Frag) (a : Addr) (xs : List V) (G : Hp → Prop) : Prop := (∀ H, G H → SqL K H a xs) ∨ (∀ H, G H → SqT K H a xs)
def iLT (K : PySem.W.Frag) (tl : TE) : TI := fun σ H R => tl σ H fun x H1 => ∃ (a : Addr) (xs : List V) (G : Hp → Prop), x = .ref a ∧ SqG K a xs G ∧ G H1 ∧ R (ItG G xs) H1
theorem pi_LT {X : Cx} {tg l : Expr} {tl : TE} (hl : PE X l tl) : PI X tg l (iLT X.K tl) := by
  refine ⟨fun pins s σ H R I h => thn (hl.run pins s σ H _ I h) fun v s1 ⟨x, H1, I1, r1, a, xs, G, e, sg, g, q⟩ => ?_⟩
  subst e
  cases r1
  have fp : ∀ b ∈ [s1.heap.objs.size], FpOk X pins H1 b := fun b hb => by
    rw [List.mem_singleton.mp hb]
    exact I1.fpOk (Nat.le_refl _) (I1.hok.fresh (Nat.le_refl _))
  have up : ∀ (o : Obj), Inv X pins σ H1 { s1 with heap := s1.heap.push o } := fun o => I1.kept (t' := s1.toks) fun b u e => Heap.get?_push_of_some _ e
  rcases sg with sg | sg
  · obtain ⟨its, rv, p, _⟩ := I1.list (sg H1 g)
    refine wpAny_pyIter_list p.isList ⟨s1.heap.objs.size, [s1.heap.objs.size], _, _, H1, rfl, up _, turn_to (J' := ItG G xs) (turn_list a _) (fun i H ⟨hi, g⟩ => ⟨xs, xs[i], sg H g, List.getElem?_eq_getElem hi⟩) (fun i H x H' ⟨_, g⟩ y => ⟨y.1, y.2 xs (sg H g)⟩) (fun i H ⟨e, g⟩ => ⟨xs, sg H g, Nat.le_of_eq e.symm⟩), ⟨_, Heap.get?_push_size _ rfl, rfl, rfl⟩, fp, q⟩
  · obtain ⟨its, rv, p, _⟩ := I1.tuple (sg H1 g)
    refine wpAny_pyIter_tuple (show s1.heap.IsTuple a its.toArray from p) ⟨s1.heap.objs.size, [s1.heap.objs.size], _, _, H1, rfl, up _, turn_to (J' := ItG G xs) (turn_tuple a _) (fun i H ⟨hi, g⟩ => ⟨xs, xs[i], sg H g, List.getElem?_eq_getElem hi⟩) (fun i H x H' ⟨_, g⟩ y => ⟨y.1, y.2 xs (sg H g)⟩) (fun i H ⟨e, g⟩ => ⟨xs, sg H g, Nat.le_of_eq e.symm⟩), ⟨_, Heap.get?_push_size _ rfl, rfl, rfl⟩, fp, q⟩
theorem pi_tupK {X : Cx} {K : PySem.W.Frag} {tg l : Expr} {tl : TE} (h : X.K = K) (hl : PE X l tl) : PI X tg l (iTup K tl) := h ▸ pi_tup hl
def rListOf (K : PySem.W.Frag) : List V → Hp → VK → Prop := fun xs H Q => ∃ p ys, xs = [.ref p] ∧ (SqL K H p ys ∨ SqT K H p ys) ∧ ∀ l, H l = none → Q (.ref l) (upd H l (.lst ys))
theorem call_list_ofK {X : Cx} {K : PySem.W.Frag} (h : X.K = K) : CallR X (.type "list") (rListOf K) := h ▸ call_list_of
/-! ### tuple * number, also once -/
theorem mul_once (l : Addr) (items : Array Value) (n : Nat) (dd : Option Addr) (sl : Array (Option Value)) (u : Tok) :
    Meets (Builtin.«tuple.__mul__» ⟨[.ref l, .int 1 u], []⟩) (fun _ R s => s.heap.get? l = some { cls := .type "tuple", dict := dd, data := .seq items n, slots := sl } ∧ R (.ok (.ret (Value.ref l))) s) :=
  .of_wp fun prog w A R s h => by
    obtain ⟨hp, g, d, tk, os⟩ := s
    obtain ⟨hl, h⟩ := h
    have f1 := AutoSeq1.idx_int
    have c0 : (decide ((1 : Int) < -(2 ^ 63)) || decide ((1 : Int) ≥ 2 ^ 63)) = false := by decide
    have c1 : (items.isEmpty || (1 : Int) == 1) = true := by cases items.isEmpty <;> rfl
    wp_walk using wpAny_loadPart' hl
    repeat (first
      | (refine wpAny_ite_false (decide_eq_false (by rw [c0]; exact Bool.false_ne_true)) ?_; wp_walk using wpAny_loadPart' hl)
      | (refine wpAny_ite_true (decide_eq_true c1) ?_; wp_walk using wpAny_loadPart' hl))
    exact ⟨_, rfl, h⟩
def rRep1 (K : PySem.W.Frag) : R2 := fun x y H Q => ∃ (l : Addr) (k : Int) (xs : List V), x = .ref l ∧ y = .int k ∧ SqT K H l xs ∧ xs ≠ [] ∧ 1 ≤ k ∧ k ≤ 1000 ∧ xs.length ≤ 1000 ∧ (k = 1 → Q (.ref l) H) ∧ (2 ≤ k → ∀ p, H p = none → Q (.ref p) (upd H p (.tup (List.replicate k.toNat xs).flatten)))
theorem op_rep1 {X : Cx} : OpR X (binaryOp .Mult) (rRep1 X.K) := by
  intro pins s σ H x y v u Q I rx ry h
  obtain ⟨l, k, xs, rfl, rfl, hT, hne, h1, h2, hz, q1, q2⟩ := h
  by_cases c : k = 1
  · subst c
    cases rx
    obtain ⟨t, rfl⟩ := ry
    obtain ⟨its, r, ⟨⟨cls, dd, data, sl⟩, ho, hc, n, hd⟩, hs⟩ := I.tuple hT
    simp only at hc hd
    subst hc hd
    exact wpAny_binaryOp_repeat_ref (T := "tuple") (U := "int") (by decide) ⟨_, ho, rfl⟩ (fun s' => typeIs_int s' 1 t) noFill_tuple_mul F.fills_int_mul F.slot_int_rmul repeat_tuple F.slot_int_index.lookup
      (call_meets F.slot_int_rmul (typeIs_int s 1 t) F.entry_int_rmul (F.args_int_rmul_2 _ _) (int_rmul_tuple 1 t l its.toArray n dd sl)
        ⟨ho, rfl, ⟨_, ho, rfl⟩, call_meets F.slot_tuple_mul ⟨_, ho, rfl⟩ F.entry_tuple_mul (F.args_tuple_mul_2 _ _) (mul_once l its.toArray n dd sl t) ⟨ho, ⟨.ref l, H, I, rfl, q1 rfl⟩⟩⟩)
  · exact op_repT pins s σ H _ _ v u Q I rx ry ⟨l, k, xs, rfl, rfl, hT, hne, by omega, h2, hz, q2 (by omega)⟩
theorem paired_app {α β : Type} {F : α → β → Prop} : ∀ {a c : List α} {b d : List β}, Paired F a b → Paired F c d → Paired F (a ++ c) (b ++ d)
  | _, _, _, _, .nil, s => s
  | _, _, _, _, .cons r t, s => .cons r (paired_app t s)
/-! ### rows of field elements -/
def row (ns : List Int) : Row := fun i => ns.getD i 0
def Fe (p : Int) (ns : List Int) : Prop := ∀ a ∈ ns, 0 ≤ a ∧ a < p
theorem row_get {ns : List Int} {i : Nat} {a : Int} (h : ns[i]? = some a) : row ns i = a := by
  unfold row
  rw [List.getD_eq_getElem?_getD, h]
  rfl
theorem row_at {ns : List Int} {i : Nat} (h : i < ns.length) : ns[i]? = some (row ns i) := by
  unfold row
  rw [List.getD_eq_getElem?_getD, List.getElem?_eq_getElem h]
  rfl
theorem row_out {ns : List Int} {i : Nat} (h : ns.length ≤ i) : row ns i = 0 := by
  unfold row
  rw [List.getD_eq_getElem?_getD, List.getElem?_eq_none h]
  rfl
theorem Fe.row {p : Int} {ns : List Int} (h : Fe p ns) {i : Nat} (hi : i < ns.length) : 0 ≤ row ns i ∧ row ns i < p := h _ (by
  have e := row_at hi
  exact (List.getElem?_eq_some_iff.mp e).2 ▸ List.getElem_mem _)
theorem row_int {ns : List Int} {i : Nat} (h : i < ns.length) : (ns.map V.int)[i]? = some (.int (row ns i)) := by
  rw [List.getElem?_map, row_at h]
  rfl
theorem atI_row {ns : List Int} {i : Nat} (h : i < ns.length) : atI (ns.map V.int) (i : Int) = some (.int (row ns i)) := atI_nat (row_int h)
theorem Fe.mod {p : Int} (hp : 0 < p) (f : Int → Int) (ns : List Int) : Fe p (ns.map fun a => f a % p) := fun a m => by
  obtain ⟨b, _, rfl⟩ := List.mem_map.mp m
  exact ⟨Int.emod_nonneg _ (by omega), Int.emod_lt_of_pos _ hp⟩
theorem row_map {f : Int → Int} {ns : List Int} {i : Nat} (h : i < ns.length) : row (ns.map f) i = f (row ns i) := by
  refine row_get ?_
  rw [List.getElem?_map, row_at h]
  rfl
theorem row_zip {f : Int → Int → Int} {ns ms : List Int} {i : Nat} (h : i < ns.length) (h2 : i < ms.length) : row (List.zipWith f ns ms) i = f (row ns i) (row ms i) := by
  refine row_get ?_
  rw [List.getElem?_zipWith, row_at h, row_at h2]
theorem emod_dvd (p a : Int) : p ∣ a % p - a := by
  rw [Int.emod_def]
  exact ⟨-(a / p), by grind⟩
/-! ### leading equations, in the heap -/
structure Ent where
  c : Nat
  b : Addr
  es : List Int
def EntOk (p : Int) (N : Nat) (H : Hp) (e : Ent) : Prop := H e.b = some (.lst (e.es.map V.int)) ∧ e.es.length = N ∧ Fe p e.es ∧ e.c < N ∧ Begins e.c (row e.es)
def kvE (E : List Ent) : List (Key × V) := E.map fun e => (Sum.inl (e.c : Int), V.ref e.b)
theorem kvE_none {E : List Ent} {c : Nat} : valV (kvE E) (Sum.inl (c : Int)) = none ↔ ∀ e ∈ E, e.c ≠ c := by
  unfold kvE
  induction E with
  | nil => exact ⟨fun _ e m => absurd m List.not_mem_nil, fun _ => rfl⟩
  | cons a E ih =>
    rw [List.map_cons]
    by_cases h : a.c = c
    · rw [valV_pos (p := (Sum.inl (a.c : Int), V.ref a.b)) (by rw [h])]
      exact ⟨(fun z => by cases z), fun z => absurd h (z a List.mem_cons_self)⟩
    · rw [valV_neg (p := (Sum.inl (a.c : Int), V.ref a.b)) (by
        intro z
        have z2 : (a.c : Int) = (c : Int) := Sum.inl.inj z
        omega), ih]
      exact ⟨fun z e m => by
        rcases List.mem_cons.mp m with rfl | m
        · exact h
        · exact z e m, fun z e m => z e (List.mem_cons_of_mem _ m)⟩
theorem kvE_some {E : List Ent} {c : Nat} {v : V} (h : valV (kvE E) (Sum.inl (c : Int)) = some v) : ∃ e ∈ E, e.c = c ∧ v = .ref e.b := by
  unfold kvE at h
  induction E with
  | nil => cases h
  | cons a E ih =>
    rw [List.map_cons] at h
    by_cases k : a.c = c
    · rw [valV_pos (p := (Sum.inl (a.c : Int), V.ref a.b)) (by rw [k])] at h
      cases h
      exact ⟨a, List.mem_cons_self, k, rfl⟩
    · rw [valV_neg (p := (Sum.inl (a.c : Int), V.ref a.b)) (by
        intro z
        have z2 : (a.c : Int) = (c : Int) := Sum.inl.inj z
        omega)] at h
      obtain ⟨e, m, r⟩ := ih h
      exact ⟨e, List.mem_cons_of_mem _ m, r⟩
/-- v kills all rows -/
def Kl (p : Int) (N : Nat) (v : Nat → Int) (R : List (List Int)) : Prop := ∀ ns ∈ R, p ∣ dot N (row ns) v
def KlE (p : Int) (N : Nat) (v : Nat → Int) (E : List Ent) : Prop := ∀ e ∈ E, p ∣ dot N (row e.es) v
theorem KlE.snoc {p : Int} {N : Nat} {v : Nat → Int} {E : List Ent} {e : Ent} : KlE p N v (E ++ [e]) ↔ KlE p N v E ∧ p ∣ dot N (row e.es) v :=
  ⟨fun h => ⟨fun x m => h x (List.mem_append_left _ m), h e (List.mem_append_right _ List.mem_cons_self)⟩, fun h x m => by
    rcases List.mem_append.mp m with m | m
    · exact h.1 x m
    · rw [List.mem_singleton.mp m]
      exact h.2⟩
theorem Kl.snoc {p : Int} {N : Nat} {v : Nat → Int} {R : List (List Int)} {ns : List Int} : Kl p N v (R ++ [ns]) ↔ Kl p N v R ∧ p ∣ dot N (row ns) v :=
  ⟨fun h => ⟨fun x m => h x (List.mem_append_left _ m), h ns (List.mem_append_right _ List.mem_cons_self)⟩, fun h x m => by
    rcases List.mem_append.mp m with m | m
    · exact h.1 x m
    · rw [List.mem_singleton.mp m]
      exact h.2⟩
theorem dot_zero {N : Nat} {e v : Nat → Int} (h : ∀ k, k < N → e k = 0) : dot N e v = 0 := sumF_zero fun k hk => by rw [h k hk, Int.zero_mul]
/-! ### keyword arguments of three, in the reverse order -/
theorem kb3r {K : PySem.W.Frag} {x a b c : Str} {st : Stmt} {f : Addr} {fd : FuncData} (F : Fun K x x st f fd)
    (h : ∀ (kV doc pm : Value) (an : Option Addr) (cdv ct u v w : Value), bindArgs (PySem.W.fnOf x x (defArgs st) (defBody st) (defScope st) .none kV doc pm an cdv ct) ⟨[], [(c, w), (b, v), (a, u)]⟩ = pure [(a, u), (b, v), (c, w)]) :
    KBinds K fd [a, b, c] [c, b, a] (fun us ws => if us.isEmpty then ws.reverse else []) (fun us ws => if us.isEmpty then ws.reverse else []) := by
  obtain ⟨oc, od, kV, doc, pm, an, cdv, ct, osl, rfl, lk, hcd⟩ := F.ex
  refine ⟨fun s us ws _ hl => ?_, fun {vs us zs ws} r rz => ?_⟩
  · cases us with
    | cons u r =>
      rw [show (u :: r).isEmpty = false from rfl, if_neg Bool.false_ne_true] at hl
      cases hl
    | nil =>
      rw [show ([] : List Value).isEmpty = true from rfl, if_pos rfl, List.length_reverse] at hl
      match ws, hl with
      | [_, _, _], _ => exact .of_eq (h ..)
  · cases r with
    | nil =>
      show Vals zs.reverse ws.reverse
      exact vals_rev rz
    | cons _ _ => exact .nil
end Lj
set_option Elab.async false
set_option linter.all false
set_option maxRecDepth 100000
namespace Lj
open PySem PySem.Spec PyProof.Rows L2
/-! ### trees shown -/
mutual
def Tr.datT : Tr → PyData
  | .op w as => .tuple (.str w :: as.map .int)
  | .loop k b => .tuple [.str "loop", .int k, .tuple (datTs b)]
def datTs : List Tr → List PyData
  | [] => []
  | t :: r => t.datT :: datTs r
end
mutual
theorem Tr.dp {K : PySem.W.Frag} {H : Hp} : ∀ (t : Tr) (v : V), TrAt K H t v → Dp K H v t.datT
  | .op w as, v, h => by
    rw [TrAt] at h
    obtain ⟨a, rfl, sq⟩ := h
    rw [Tr.datT]
    exact .tup sq (.cons (.str w) (dp_ints as))
  | .loop k b, v, h => by
    rw [TrAt] at h
    obtain ⟨a, c, vs, rfl, sq, sq2, r⟩ := h
    rw [Tr.datT]
    exact .tup sq (.cons (.str _) (.cons (.int k) (.cons (.tup sq2 (trs_dp b vs r)) .nil)))
theorem trs_dp {K : PySem.W.Frag} {H : Hp} : ∀ (b : List Tr) (vs : List V), TrsAt K H b vs → DpAll K H vs (datTs b)
  | [], vs, h => by
    rw [TrsAt] at h
    rw [h, datTs]
    exact .nil
  | t :: r, vs, h => by
    rw [TrsAt] at h
    obtain ⟨v, us, rfl, a, k⟩ := h
    rw [datTs]
    exact .cons (Tr.dp t v a) (trs_dp r us k)
end
def sb : Nat → Nat
  | 0 => 20000
  | d + 1 => 20000 + 8 * (sb d + 2)
theorem sb_ge : ∀ d, 20000 ≤ sb d
  | 0 => Nat.le_refl _
  | d + 1 => by rw [sb]; omega
/-- short arguments -/
def Short (w : Str) (as : List Int) : Prop := w ∈ W7 ∧ as.length ≤ 3 ∧ ∀ a ∈ as, a.natAbs < 2 ^ 1000
theorem W7_shown {w : Str} (h : w ∈ W7) : (PyData.shown (.str w)).length ≤ 20 := by
  have z : (W7.all fun w => decide ((PyData.shown (.str w)).length ≤ 20)) = true := by decide +kernel
  exact of_decide_eq_true (List.all_eq_true.mp z w h)
mutual
theorem Tr.made_show {G : Str → List Int → Prop} {R : Int → Prop} (hG : ∀ w as, G w as → Short w as) (hR : ∀ k, R k → k.natAbs < 2 ^ 1000) : ∀ (t : Tr) (l d : Nat), l ≤ 8 → t.made G R l d →
    t.datT.showable = true ∧ t.datT.hasDict = false ∧ t.datT.depth ≤ 2 * d + 1 ∧ t.datT.shown.length ≤ sb d
  | .op w as, l, d, hl, h => by
    rw [Tr.made] at h
    obtain ⟨h1, h2, h3⟩ := hG w as h
    obtain ⟨a1, a2, a3, a4, a5⟩ := leaf_all (leaf_ints h3)
    rw [Tr.datT]
    refine ⟨by rw [PyData.showable, PyData.showableAll, PyData.showable, a1]; rfl, by rw [PyData.hasDict, PyData.hasDictAll, PyData.hasDict, a2]; rfl, by rw [PyData.depth, PyData.depthAll, PyData.depth, a3]; exact Nat.succ_le_succ (Nat.zero_le _), ?_⟩
    rw [PyData.shown, PyData.shownAll]
    have z := PySem.tupleText_len_le (PyData.shown (.str w) :: PyData.shownAll (as.map PyData.int))
    rw [List.map_cons, List.sum_cons, List.length_cons, a5] at z
    have z2 := W7_shown h1
    have z3 := sb_ge d
    rw [List.length_map] at z a4
    omega
  | .loop k b, l, 0, _, h => by rw [Tr.made] at h; exact h.elim
  | .loop k b, l, d + 1, hl, h => by
    rw [Tr.made] at h
    obtain ⟨b1, b2, b3, b4, b5⟩ := mades_show hG hR b (l / 2) d (by omega) h.2.2
    obtain ⟨i1, i2, i3, i4⟩ := leaf_int (log_of (hR k h.1) (by decide) (by decide))
    have lp : (PyData.shown (.str "loop")).length ≤ 20 := by decide +kernel
    have y := PySem.tupleText_len_le (PyData.shownAll (datTs b))
    have hb := h.2.1
    rw [Tr.datT]
    refine ⟨by rw [PyData.showable, PyData.showableAll, PyData.showable, PyData.showableAll, i1, PyData.showableAll, PyData.showable, b1, PyData.showableAll]; rfl,
      by rw [PyData.hasDict, PyData.hasDictAll, PyData.hasDict, PyData.hasDictAll, i2, PyData.hasDictAll, PyData.hasDict, b2, PyData.hasDictAll]; rfl,
      by rw [PyData.depth, PyData.depthAll, PyData.depth, PyData.depthAll, i3, PyData.depthAll, PyData.depth, PyData.depthAll]; omega, ?_⟩
    rw [PyData.shown, PyData.shownAll, PyData.shownAll, PyData.shownAll, PyData.shownAll]
    have z := PySem.tupleText_len_le [PyData.shown (.str "loop"), PyData.shown (.int k), PyData.shown (.tuple (datTs b))]
    have ez : (PyData.shown (.tuple (datTs b))) = tupleText (PyData.shownAll (datTs b)) := by rw [PyData.shown]
    rw [List.map_cons, List.map_cons, List.map_cons, List.map_nil, List.sum_cons, List.sum_cons, List.sum_cons, List.sum_nil, ez] at z
    rw [show ([PyData.shown (.str "loop"), PyData.shown (.int k), tupleText (PyData.shownAll (datTs b))] : List Str).length = 3 from rfl] at z
    rw [ez, sb]
    have m1 : b.length * sb d ≤ 4 * sb d := Nat.mul_le_mul_right _ (by omega)
    have := sb_ge d
    omega
theorem mades_show {G : Str → List Int → Prop} {R : Int → Prop} (hG : ∀ w as, G w as → Short w as) (hR : ∀ k, R k → k.natAbs < 2 ^ 1000) : ∀ (b : List Tr) (l d : Nat), l ≤ 8 → mades G R b l d →
    PyData.showableAll (datTs b) = true ∧ PyData.hasDictAll (datTs b) = false ∧ PyData.depthAll (datTs b) ≤ 2 * d + 1 ∧ ((PyData.shownAll (datTs b)).map (·.length)).sum ≤ b.length * sb d ∧ (PyData.shownAll (datTs b)).length = b.length
  | [], l, d, _, _ => by
    rw [datTs]
    exact ⟨by rw [PyData.showableAll], by rw [PyData.hasDictAll], by rw [PyData.depthAll]; exact Nat.zero_le _, by rw [PyData.shownAll]; exact Nat.zero_le _, by rw [PyData.shownAll]; rfl⟩
  | t :: r, l, d, hl, h => by
    rw [mades] at h
    obtain ⟨a1, a2, a3, a4⟩ := Tr.made_show hG hR t l d hl h.1
    obtain ⟨b1, b2, b3, b4, b5⟩ := mades_show hG hR r l d hl h.2
    rw [datTs]
    refine ⟨by rw [PyData.showableAll, a1, b1]; rfl, by rw [PyData.hasDictAll, a2, b2]; rfl, by rw [PyData.depthAll]; omega, ?_, by rw [PyData.shownAll, List.length_cons, b5, List.length_cons]⟩
    rw [PyData.shownAll, List.map_cons, List.sum_cons, List.length_cons, Nat.succ_mul]
    omega
end
/-! ### reads among what is executed -/
def rc (E : List Tr) : Int := (((E.map Tr.word).count ("read" : Str) : Nat) : Int)
theorem rc_nil : rc [] = 0 := rfl
theorem rc_append (a b : List Tr) : rc (a ++ b) = rc a + rc b := by
  unfold rc
  rw [List.map_append, List.count_append, Int.natCast_add]
theorem rc_exs {b : List Tr} {n : Nat} (h : wfs b n) : rc (exs b) = cnts "read" b := exs_cnt "read" b n h
theorem rc_ex {t : Tr} {n : Nat} (h : t.wf n) : rc t.ex = t.cnt "read" := Tr.ex_cnt "read" t n h
theorem rc_flat (xs : List Tr) (n : Nat) : rc (List.replicate n xs).flatten = n * rc xs := by
  unfold rc
  rw [count_flat, Int.natCast_mul]
theorem rc_loop (E : List Tr) (k m : Nat) (hE : 0 < E.length) (hm : m < k * E.length) : rc (((List.replicate k E).flatten).take m) = ((m / E.length : Nat) : Int) * rc E + rc (E.take (m % E.length)) := by
  have hd := Nat.div_add_mod m E.length
  have hr := Nat.mod_lt m hE
  have ht : m / E.length < k := (Nat.div_lt_iff_lt_mul hE).mpr hm
  generalize m / E.length = t at hd ht
  generalize m % E.length = r at hd hr
  rw [← hd, Nat.mul_comm, take_flat E k t r ht (Nat.le_of_lt hr), rc_append, rc_flat]
theorem rc_nn (E : List Tr) : 0 ≤ rc E := Int.natCast_nonneg _
theorem rc_le (E : List Tr) : rc E ≤ E.length := by
  unfold rc
  have := List.count_le_length (a := ("read" : Str)) (l := E.map Tr.word)
  rw [List.length_map] at this
  omega
def spRB (K : PySem.W.Frag) (n : Nat) : Sp := fun vs H Q _ => ∃ (v : V) (b : List Tr) (m : Int), vs = [v, .int m] ∧ BodyAt K H b v ∧ okB n b ∧ 0 ≤ m ∧ ∀ H', Same H H' → Q (.int (rc ((exs b).take m.toNat))) H'
def spRW (K : PySem.W.Frag) (n : Nat) : Sp := fun vs H Q _ => ∃ (v : V) (t : Tr) (m : Int), vs = [v, .int m] ∧ TrAt K H t v ∧ okB (n + 1) [t] ∧ 0 ≤ m ∧ m < t.len ∧ ∀ H', Same H H' → Q (.int (rc (t.ex.take m.toNat))) H'
end Lj
set_option Elab.async false
set_option linter.all false
set_option maxRecDepth 100000
namespace Lj
open PySem PySem.Spec PyProof.Rows L2
theorem wfs_take {b : List Tr} {n i : Nat} (h : wfs b n) : wfs (b.take i) n := wfs_all fun t m => by
  obtain ⟨j, hj, e⟩ := List.mem_iff_getElem.mp (List.mem_of_mem_take m)
  exact wfs_get (i := j) h (by rw [List.getElem?_eq_getElem hj, e])
theorem flat_takeL {b : List Tr} {i : Nat} {t : Tr} (e : b[i]? = some t) : exs (b.take (i + 1)) = exs (b.take i) ++ t.ex := by
  rw [exs_map, exs_map, map_next e, List.flatten_append, List.flatten_cons, List.flatten_nil, List.append_nil]
theorem lens_nextL {b : List Tr} {i : Nat} {t : Tr} (e : b[i]? = some t) : lens (b.take (i + 1)) = lens (b.take i) + t.len := by rw [lens_map, lens_map, sum_next e]
theorem exs_split (b : List Tr) (i : Nat) : exs b = exs (b.take i) ++ exs (b.drop i) := by rw [exs_map, exs_map, exs_map, ← List.flatten_append, ← List.map_append, List.take_append_drop]
theorem lens_split (b : List Tr) (i : Nat) : lens b = lens (b.take i) + lens (b.drop i) := by rw [lens_map, lens_map, lens_map, ← List.sum_append, ← List.map_append, List.take_append_drop]
theorem wfs_drop {b : List Tr} {n i : Nat} (h : wfs b n) : wfs (b.drop i) n := wfs_all fun t m => by
  obtain ⟨j, hj, e⟩ := List.mem_iff_getElem.mp (List.mem_of_mem_drop m)
  exact wfs_get (i := j) h (by rw [List.getElem?_eq_getElem hj, e])
/-! ### paths -/
/-- ps leads into b to the instruction t, the step st of b is the step r of t -/
inductive PT : List Tr → List Int → Tr → Int → Int → Prop
  | here {b : List Tr} {i : Nat} {t : Tr} {r : Int} (e : b[i]? = some t) : PT b [(i : Int)] t r (lens (b.take i) + r)
  | into {b b' : List Tr} {i : Nat} {k turn r st : Int} {t : Tr} {ps : List Int} (e : b[i]? = some (.loop k b')) (h0 : 0 ≤ turn) (h1 : turn < k) (p : PT b' ps t r st) : PT b ((i : Int) :: turn :: ps) t r (lens (b.take i) + (turn * lens b' + st))
theorem PT.deeper {b : List Tr} {ps : List Int} {t : Tr} {r st : Int} (p : PT b ps t r st) : ∀ {k turn r' : Int} {b' : List Tr} {j : Nat} {t' : Tr}, t = .loop k b' → 0 ≤ turn → turn < k → b'[j]? = some t' → r = turn * lens b' + (lens (b'.take j) + r') → PT b (ps ++ [turn, (j : Int)]) t' r' st := by
  induction p with
  | here e =>
    intro k turn r' b' j t' et h0 h1 ej er
    subst et er
    exact .into e h0 h1 (.here ej)
  | into e h0 h1 p ih =>
    intro k turn r' b' j t' et g0 g1 ej er
    exact .into e h0 h1 (ih et g0 g1 ej er)
theorem get_flat {α : Type} (E : List α) (k t r : Nat) (ht : t < k) (hr : r < E.length) : ((List.replicate k E).flatten)[t * E.length + r]? = E[r]? := by
  have h1 := take_flat E k t (r + 1) ht hr
  have h2 : (((List.replicate k E).flatten).take (t * E.length + (r + 1)))[t * E.length + r]? = ((List.replicate t E).flatten ++ E.take (r + 1))[t * E.length + r]? := by rw [h1]
  rw [List.getElem?_take_of_lt (by omega), List.getElem?_append_right (by rw [flat_len]; omega), flat_len, Nat.add_sub_cancel_left, List.getElem?_take_of_lt (by omega)] at h2
  exact h2
theorem PT.step {b : List Tr} {ps : List Int} {t : Tr} {r st : Int} (p : PT b ps t r st) : ∀ {n : Nat}, wfs b n → 0 ≤ r → r < t.len → 0 ≤ st ∧ st < lens b ∧ (exs b)[st.toNat]? = t.ex[r.toNat]? := by
  induction p with
  | @here b i t r e =>
    intro n h r0 r1
    have el := exs_len (b.take i) n (wfs_take h)
    have tl := Tr.ex_len t n (wfs_get h e)
    have l0 := (lens_bd _ n (wfs_take (i := i) h)).1
    have l2 := lens_nextL e
    have l3 := lens_split b (i + 1)
    have l4 := (lens_bd _ n (wfs_drop (i := i + 1) h)).1
    refine ⟨by omega, by omega, ?_⟩
    rw [exs_split b (i + 1), flat_takeL e, List.append_assoc, List.getElem?_append_right (by omega), List.getElem?_append_left (by omega)]
    congr 1
    omega
  | @into b b' i k turn r st t ps e h0 h1 p ih =>
    intro n h r0 r1
    have wt := wfs_get h e
    cases n with
    | zero => rw [Tr.wf] at wt; exact wt.elim
    | succ n =>
      have wt2 := wt
      rw [Tr.wf] at wt
      obtain ⟨s0, s1, s2⟩ := ih wt.2.2.2 r0 r1
      have el := exs_len (b.take i) _ (wfs_take h)
      have eb := exs_len b' n wt.2.2.2
      have tl := Tr.ex_len (.loop k b') _ wt2
      have l0 := (lens_bd _ _ (wfs_take (i := i) h)).1
      have l2 := lens_nextL e
      have l3 := lens_split b (i + 1)
      have l4 := (lens_bd _ _ (wfs_drop (i := i + 1) h)).1
      rw [Tr.len] at l2 tl
      have m0 : 0 ≤ turn * lens b' := Int.mul_nonneg h0 (by omega)
      have m1 : turn * lens b' + lens b' ≤ k * lens b' := by
        have := Int.mul_le_mul_of_nonneg_right (show turn + 1 ≤ k by omega) (show 0 ≤ lens b' by omega)
        rw [Int.add_mul, Int.one_mul] at this
        exact this
      refine ⟨by omega, by omega, ?_⟩
      rw [exs_split b (i + 1), flat_takeL e, List.append_assoc, List.getElem?_append_right (by omega), List.getElem?_append_left (by omega), ← s2, Tr.ex]
      have ix : (lens (b.take i) + (turn * lens b' + st)).toNat - (exs (b.take i)).length = turn.toNat * (exs b').length + st.toNat := by
        have : ((turn.toNat * (exs b').length : Nat) : Int) = turn * lens b' := by
          rw [Int.natCast_mul, eb]
          congr 1
          omega
        omega
      rw [ix]
      exact get_flat (exs b') k.toNat turn.toNat st.toNat (by omega) (by omega)
/-! ### slices of bodies -/
theorem TrsAt.take {K : PySem.W.Frag} {H : Hp} : ∀ {b : List Tr} {vs : List V} (i : Nat), TrsAt K H b vs → TrsAt K H (b.take i) (vs.take i)
  | b, vs, 0, _ => TrsAt.nil
  | [], vs, i + 1, h => by
    rw [TrsAt] at h
    subst h
    exact TrsAt.nil
  | t :: r, vs, i + 1, h => by
    rw [TrsAt] at h
    obtain ⟨v, us, rfl, a, k⟩ := h
    rw [List.take_succ_cons, List.take_succ_cons, TrsAt]
    exact ⟨v, _, rfl, a, TrsAt.take i k⟩
theorem TrsAt.drop {K : PySem.W.Frag} {H : Hp} : ∀ {b : List Tr} {vs : List V} (i : Nat), TrsAt K H b vs → TrsAt K H (b.drop i) (vs.drop i)
  | b, vs, 0, h => h
  | [], vs, i + 1, h => by
    rw [TrsAt] at h
    subst h
    exact TrsAt.nil
  | t :: r, vs, i + 1, h => by
    rw [TrsAt] at h
    obtain ⟨v, us, rfl, a, k⟩ := h
    exact TrsAt.drop i k
theorem cut_to (xs : List V) (i : Nat) : cutV xs none (some (i : Int)) = xs.take i := by
  unfold cutV
  rw [HT.sIx_none, HT.sIx_nat, List.drop_zero, Nat.sub_zero]
  by_cases h : i ≤ xs.length
  · rw [Nat.min_eq_left h]
  · rw [Nat.min_eq_right (by omega), List.take_length, List.take_of_length_le (by omega)]
theorem cut_mid (xs : List V) (i : Nat) (h : i < xs.length) : cutV xs (some (i : Int)) (some ((i : Int) + 1)) = (xs.drop i).take 1 := by
  unfold cutV
  rw [HT.sIx_nat, show ((i : Int) + 1) = ((i + 1 : Nat) : Int) from rfl, HT.sIx_nat, Nat.min_eq_left (Nat.le_of_lt h), Nat.min_eq_left h]
  congr 1
  omega
theorem cut_whole (xs : List V) (lo hi : Option Int) (h : HT.sIx xs.length 0 lo = 0 ∧ HT.sIx xs.length xs.length hi = xs.length) : cutV xs lo hi = xs := by
  unfold cutV
  rw [h.1, h.2, List.drop_zero, Nat.sub_zero, List.take_length]
theorem body_cut {K : PySem.W.Frag} {H : Hp} {b c : List Tr} {a : Addr} {vs : List V} {lo hi : Option Int} {Q : V → Hp → Prop} (sq : SqT K H a vs) (tr : TrsAt K H b vs) (tc : TrsAt K H c (cutV vs lo hi)) (q : ∀ v' H', Same H H' → BodyAt K H' c v' → Q v' H') : rSlA K (.ref a) lo hi H Q := by
  refine ⟨a, vs, rfl, sq, fun h => ?_, fun _ p np => ?_⟩
  · rw [cut_whole vs lo hi h] at tc
    exact q _ H (Same.refl H) ⟨a, vs, rfl, sq, tc⟩
  · exact q _ _ (same_new np) ⟨p, _, rfl, SqT.of upd_same, TrsAt.kt (Kt.same (same_new np)) _ _ tc⟩
/-! ### whether a register is assigned at all -/
mutual
def Tr.nam (x : Int) : Tr → Bool
  | .op w as => decide (x ∈ asgs w as)
  | .loop k b => decide (0 < k) && nams x b
def nams (x : Int) : List Tr → Bool
  | [] => false
  | t :: r => t.nam x || nams x r
end
theorem la_none (x : Int) : ∀ {E : List Tr}, la x E = none ↔ ∀ t ∈ E, t.asg x = false
  | [] => by
    constructor
    · intro _ t m
      cases m
    · intro _
      rfl
  | t :: r => by
    have ih := la_none x (E := r)
    show (match la x r with | some j => some (j + 1) | none => if t.asg x = true then some 0 else none) = none ↔ _
    cases h : la x r with
    | some j =>
      constructor
      · intro z
        cases z
      · intro z
        have := ih.mpr fun u m => z u (List.mem_cons_of_mem _ m)
        rw [h] at this
        cases this
    | none =>
      have h2 := ih.mp h
      show (if t.asg x = true then some 0 else none) = none ↔ _
      by_cases g : t.asg x = true
      · rw [if_pos g]
        constructor
        · intro z
          cases z
        · intro z
          rw [z t List.mem_cons_self] at g
          cases g
      · rw [if_neg g]
        constructor
        · intro _ u m
          rcases List.mem_cons.mp m with rfl | m
          · exact Bool.eq_false_iff.mpr g
          · exact h2 u m
        · intro _
          rfl
mutual
theorem Tr.nam_iff (x : Int) : ∀ (t : Tr) (n : Nat), t.wf n → (t.nam x = false ↔ ∀ u ∈ t.ex, u.asg x = false)
  | .op w as, n, _ => by
    rw [Tr.nam, Tr.ex]
    constructor
    · intro h u m
      rw [List.mem_singleton.mp m]
      exact h
    · intro h
      exact h _ (List.mem_singleton.mpr rfl)
  | .loop k b, 0, h => by rw [Tr.wf] at h; exact h.elim
  | .loop k b, n + 1, h => by
    rw [Tr.wf] at h
    have ih := nams_iff x b n h.2.2.2
    rw [Tr.nam, Tr.ex]
    constructor
    · intro z u m
      obtain ⟨xs, m1, m2⟩ := List.mem_flatten.mp m
      obtain ⟨m3, m4⟩ := List.mem_replicate.mp m1
      rw [m4] at m2
      rw [decide_eq_true (show 0 < k by omega), Bool.true_and] at z
      exact ih.mp z u m2
    · intro z
      by_cases g : 0 < k
      · rw [decide_eq_true g, Bool.true_and]
        refine ih.mpr fun u m => z u (List.mem_flatten.mpr ⟨exs b, List.mem_replicate.mpr ⟨by omega, rfl⟩, m⟩)
      · rw [decide_eq_false g, Bool.false_and]
theorem nams_iff (x : Int) : ∀ (b : List Tr) (n : Nat), wfs b n → (nams x b = false ↔ ∀ u ∈ exs b, u.asg x = false)
  | [], n, _ => by
    rw [nams, exs]
    constructor
    · intro _ u m
      cases m
    · intro _
      rfl
  | t :: r, n, h => by
    rw [wfs] at h
    have h1 := Tr.nam_iff x t n h.1
    have h2 := nams_iff x r n h.2
    rw [nams, exs, Bool.or_eq_false_iff, h1, h2]
    constructor
    · rintro ⟨a, b⟩ u m
      rcases List.mem_append.mp m with m | m
      · exact a u m
      · exact b u m
    · intro z
      exact ⟨fun u m => z u (List.mem_append.mpr (.inl m)), fun u m => z u (List.mem_append.mpr (.inr m))⟩
end
theorem la_get (x : Int) : ∀ {E : List Tr} {j : Nat}, la x E = some j → ∃ t, E[j]? = some t ∧ t.asg x = true
  | [], j, h => by cases h
  | t :: r, j, h => by
    have h : (match la x r with | some j => some (j + 1) | none => if t.asg x = true then some 0 else none) = some j := h
    cases e : la x r with
    | some i =>
      rw [e] at h
      cases h
      obtain ⟨u, h1, h2⟩ := la_get x e
      exact ⟨u, h1, h2⟩
    | none =>
      rw [e] at h
      have h : (if t.asg x = true then some 0 else none) = some j := h
      by_cases g : t.asg x = true
      · rw [if_pos g] at h
        cases h
        exact ⟨t, rfl, g⟩
      · rw [if_neg g] at h
        cases h
theorem la_ltL (x : Int) {E : List Tr} {j : Nat} (h : la x E = some j) : j < E.length := by
  obtain ⟨t, h1, _⟩ := la_get x h
  exact (List.getElem?_eq_some_iff.mp h1).1
/-- just behind a step that assigns it, it is this step -/
theorem la_at (x : Int) {E : List Tr} {j : Nat} {t : Tr} (e : E[j]? = some t) (a : t.asg x = true) : la x (E.take (j + 1)) = some j := by
  rw [List.take_add_one, e, la_append]
  have : la x (some t).toList = some 0 := by
    show (if t.asg x = true then some 0 else none) = some 0
    rw [if_pos a]
  rw [this]
  have l := (List.getElem?_eq_some_iff.mp e).1
  show some ((E.take j).length + 0) = some j
  rw [List.length_take]
  congr 1
  omega
end Lj
namespace Lj
open PySem PySem.Spec PyProof.Rows L2
mutual
theorem Tr.args_in : ∀ (t : Tr) (n : Nat), t.wf n → t.hasArgs → ∀ u ∈ t.ex, u.hasArgs
  | .op w as, n, _, h => by
    rw [Tr.ex]
    intro u m
    rw [List.mem_singleton.mp m]
    exact h
  | .loop k b, 0, h, _ => by rw [Tr.wf] at h; exact h.elim
  | .loop k b, n + 1, h, a => by
    rw [Tr.wf] at h
    rw [Tr.hasArgs] at a
    rw [Tr.ex]
    intro u m
    obtain ⟨xs, m1, m2⟩ := List.mem_flatten.mp m
    rw [(List.mem_replicate.mp m1).2] at m2
    exact exs_args b n h.2.2.2 a u m2
theorem exs_args : ∀ (b : List Tr) (n : Nat), wfs b n → haveArgs b → ∀ u ∈ exs b, u.hasArgs
  | [], _, _, _ => by rw [exs]; intro u m; cases m
  | t :: r, n, h, a => by
    rw [wfs] at h
    rw [haveArgs] at a
    rw [exs]
    intro u m
    rcases List.mem_append.mp m with m | m
    · exact Tr.args_in t n h.1 a.1 u m
    · exact exs_args r n h.2 a.2 u m
end
theorem args_in {b : List Tr} {n j : Nat} {z : Str} {as : List Int} (a : haveArgs b) (h : wfs b n) (e : (exs b)[j]? = some (.op z as)) : as ≠ [] := by
  have := exs_args b n h a _ (List.mem_of_getElem? e)
  rw [Tr.hasArgs] at this
  exact this
end Lj
set_option Elab.async false
set_option linter.all false
set_option maxRecDepth 100000
set_option pp.maxSteps 500
set_option pp.deepTerms.threshold 8
set_option pp.deepTerms false
namespace Lj
open PySem PySem.Spec PyProof.Rows L2
/-! ### which data are instructions -/
def isBd (lo hi : Int) : PyData → Bool
  | .int i => decide (lo ≤ i) && decide (i ≤ hi)
  | _ => false
/-- how many registers follow a word, and the least field element behind them -/
def shp (w : Str) : Option (Nat × Option Int) :=
  if w = "set" then some (1, some 0) else if w = "copy" then some (2, none) else if w = "add" then some (2, some 1) else if w = "scale" then some (1, some 0) else if w = "swap" then some (2, none) else if w = "read" then some (1, none) else if w = "write" then some (1, none) else none
def sameI : PyData → PyData → Bool
  | .int i, .int j => decide (i = j)
  | _, _ => false
def regsD (n : Int) (ds : List PyData) : Bool := ds.all (isBd 0 (n - 1)) && (match ds with
  | a :: b :: _ => !sameI a b
  | _ => true)
def shapeD (p n : Int) (s : Nat × Option Int) (ds : List PyData) : Bool := match s.2 with
  | none => decide (ds.length = s.1) && regsD n ds
  | some c => decide (ds.length = s.1 + 1) && (regsD n (ds.take s.1) && isBd c (p - 1) (ds.getD s.1 .none))
def okBl (f : PyData → Bool) : PyData → Bool
  | .tuple bs => bs.all f
  | _ => false
def okS (p n : Int) (lp : List PyData → Bool) : PyData → Bool
  | .tuple (.str w :: ds) => if w = "loop" then lp ds else match shp w with
    | none => false
    | some s => shapeD p n s ds
  | _ => false
def lpD (p : Int) (f : PyData → Bool) : List PyData → Bool
  | [k, b] => isBd 0 (10 ^ 18) k && okBl f b
  | _ => false
def okI (p n : Int) : Nat → PyData → Bool
  | 0 => okS p n fun _ => false
  | lv + 1 => okS p n (lpD p (okI p n lv))
/-! ### measures -/
mutual
/-- the longest list or tuple within -/
def lx : PyData → Nat
  | .list ds => max ds.length (lxs ds)
  | .tuple ds => max ds.length (lxs ds)
  | _ => 0
def lxs : List PyData → Nat
  | [] => 0
  | d :: ds => max (lx d) (lxs ds)
end
theorem lxs_mem : ∀ {ds : List PyData} {d : PyData}, d ∈ ds → lx d ≤ lxs ds
  | a :: ds, d, h => by
    rw [lxs]
    rcases List.mem_cons.mp h with rfl | h
    · exact Nat.le_max_left _ _
    · exact Nat.le_trans (lxs_mem h) (Nat.le_max_right _ _)
theorem lx_tup {ds : List PyData} {d : PyData} (h : d ∈ ds) : lx d ≤ lx (.tuple ds) := by
  rw [lx]
  exact Nat.le_trans (lxs_mem h) (Nat.le_max_right _ _)
theorem lx_len (ds : List PyData) : ds.length ≤ lx (.tuple ds) := by
  rw [lx]
  exact Nat.le_max_left _ _
/-! ### instructions are trees -/
theorem DdAll.length {K : PySem.W.Frag} {H : Hp} : ∀ {vs : List V} {ds : List PyData}, DdAll K H vs ds → vs.length = ds.length
  | _, _, .nil => rfl
  | _, _, .cons _ t => by rw [List.length_cons, List.length_cons, DdAll.length t]
theorem DdAll.get {K : PySem.W.Frag} {H : Hp} : ∀ {vs : List V} {ds : List PyData} {i : Nat} {v : V}, DdAll K H vs ds → vs[i]? = some v → ∃ d, ds[i]? = some d ∧ Dd K H v d
  | _, _, 0, _, .cons h _, e => by
    cases e
    exact ⟨_, rfl, h⟩
  | _, _, i + 1, _, .cons _ t, e => DdAll.get (i := i) t e
theorem isBd_int {lo hi : Int} {d : PyData} (h : isBd lo hi d = true) : ∃ i, d = .int i ∧ lo ≤ i ∧ i ≤ hi := by
  cases d with
  | int i =>
    have h : (decide (lo ≤ i) && decide (i ≤ hi)) = true := h
    rw [Bool.and_eq_true] at h
    exact ⟨i, rfl, of_decide_eq_true h.1, of_decide_eq_true h.2⟩
  | _ => cases h
/-- all of them are numbers -/
def Ints (ds : List PyData) (as : List Int) : Prop := ds = as.map .int
theorem ints_of : ∀ {ds : List PyData} {lo hi : Int}, ds.all (isBd lo hi) = true → ∃ as : List Int, ds = as.map .int
  | [], _, _, _ => ⟨[], rfl⟩
  | d :: ds, lo, hi, h => by
    rw [List.all_cons, Bool.and_eq_true] at h
    obtain ⟨i, rfl, _⟩ := isBd_int h.1
    obtain ⟨as, rfl⟩ := ints_of h.2
    exact ⟨i :: as, rfl⟩
theorem regs_ints {n : Int} {ds : List PyData} (h : regsD n ds = true) : ∃ as : List Int, ds = as.map .int := by
  unfold regsD at h
  rw [Bool.and_eq_true] at h
  exact ints_of h.1
theorem shape_ints {p n : Int} {s : Nat × Option Int} {ds : List PyData} (h : shapeD p n s ds = true) : ∃ as : List Int, ds = as.map .int := by
  unfold shapeD at h
  split at h
  · rw [Bool.and_eq_true] at h
    exact regs_ints h.2
  · rename_i c e
    rw [Bool.and_eq_true, Bool.and_eq_true] at h
    have hl := of_decide_eq_true h.1
    obtain ⟨as, ea⟩ := regs_ints h.2.1
    obtain ⟨i, ei, _⟩ := isBd_int h.2.2
    have lt : s.1 < ds.length := by omega
    have split_ : ds = ds.take s.1 ++ [ds.getD s.1 .none] := by
      rw [List.getD_eq_getElem?_getD, List.getElem?_eq_getElem lt]
      show ds = ds.take s.1 ++ [ds[s.1]]
      rw [List.take_append_getElem lt]
      exact (List.take_of_length_le (by omega)).symm
    refine ⟨as ++ [i], ?_⟩
    rw [split_, ea, ei, List.map_append]
    rfl
theorem dd_ints {K : PySem.W.Frag} {H : Hp} : ∀ {vs : List V} {as : List Int}, DdAll K H vs (as.map .int) → vs = as.map V.int
  | _, [], h => by
    cases h
    rfl
  | _, a :: as, h => by
    cases h with
    | cons h t =>
      cases h
      rw [dd_ints t]
      rfl
theorem shp_noloop {w : Str} {s : Nat × Option Int} (h : shp w = some s) : w ≠ "loop" := fun e => by
  subst e
  have z : shp "loop" = none := by decide
  rw [z] at h
  cases h
theorem okS_cases {p n : Int} {lp : List PyData → Bool} {d : PyData} (h : okS p n lp d = true) : ∃ (w : Str) (ds : List PyData), d = .tuple (.str w :: ds) ∧ ((w = "loop" ∧ lp ds = true) ∨ (w ≠ "loop" ∧ ∃ as : List Int, ds = as.map .int)) := by
  unfold okS at h
  split at h
  · rename_i w ds
    refine ⟨w, ds, rfl, ?_⟩
    by_cases c : w = "loop"
    · rw [if_pos c] at h
      exact .inl ⟨c, h⟩
    · rw [if_neg c] at h
      split at h
      · cases h
      · exact .inr ⟨c, shape_ints h⟩
  · cases h
theorem tr_of {K : PySem.W.Frag} {H : Hp} {p n : Int} : ∀ (lv : Nat) {d : PyData} {v : V}, okI p n lv d = true → Dd K H v d → lx d ≤ 1000 → ∃ t : Tr, TrAt K H t v ∧ t.wf lv := by
  intro lv
  induction lv with
  | zero =>
    intro d v h dd hl
    obtain ⟨w, ds, rfl, h2⟩ := okS_cases h
    clear h
    rcases h2 with ⟨_, z⟩ | ⟨c, as, rfl⟩
    · cases z
    · cases dd with
      | @tup a xs _ q r =>
        cases r with
        | cons h t =>
          cases h
          rw [dd_ints t] at q
          exact ⟨.op w as, by rw [TrAt]; exact ⟨a, rfl, q⟩, by rw [Tr.wf]; exact c⟩
  | succ lv ih =>
    intro d v h dd hl
    obtain ⟨w, ds, rfl, h2⟩ := okS_cases h
    clear h
    cases dd with
    | @tup a xs _ q r =>
      cases r with
      | @cons vw vs _ _ hw t =>
        cases hw
        rcases h2 with ⟨c, z⟩ | ⟨c, as, rfl⟩
        · subst c
          unfold lpD at z
          split at z
          · rename_i kd bd
            rw [Bool.and_eq_true] at z
            obtain ⟨i, rfl, i0, i1⟩ := isBd_int z.1
            have z2 := z.2
            unfold okBl at z2
            split at z2
            · rename_i bs
              cases t with
              | cons tk tb =>
                cases tk
                cases tb with
                | cons tb te =>
                  cases te
                  cases tb with
                  | @tup c ys _ qb rb =>
                    have lb : lx (.tuple bs) ≤ 1000 := Nat.le_trans (lx_tup (ds := [.str "loop", .int i, .tuple bs]) (by simp)) hl
                    have all_ : ∀ {ys : List V} {bs : List PyData}, DdAll K H ys bs → bs.all (okI p n lv) = true → (∀ d ∈ bs, lx d ≤ 1000) → ∃ b : List Tr, TrsAt K H b ys ∧ wfs b lv := by
                      intro ys bs
                      induction bs generalizing ys with
                      | nil =>
                        intro r _ _
                        cases r
                        exact ⟨[], TrsAt.nil, by rw [wfs]; trivial⟩
                      | cons e bs ihb =>
                        intro r z l
                        rw [List.all_cons, Bool.and_eq_true] at z
                        cases r with
                        | cons h t =>
                          obtain ⟨t1, a1, w1⟩ := ih z.1 h (l e List.mem_cons_self)
                          obtain ⟨b1, a2, w2⟩ := ihb t z.2 fun d m => l d (List.mem_cons_of_mem _ m)
                          exact ⟨t1 :: b1, by rw [TrsAt]; exact ⟨_, _, rfl, a1, a2⟩, by rw [wfs]; exact ⟨w1, w2⟩⟩
                    obtain ⟨b, tb, wb⟩ := all_ rb z2 fun d m => Nat.le_trans (lx_tup m) lb
                    refine ⟨.loop i b, by rw [TrAt]; exact ⟨a, c, ys, rfl, q, qb, tb⟩, ?_⟩
                    rw [Tr.wf]
                    refine ⟨i0, i1, ?_, wb⟩
                    rw [← tb.length, rb.length]
                    exact Nat.le_trans (lx_len bs) lb
            · cases z2
          · cases z
        · rw [dd_ints t] at q
          exact ⟨.op w as, by rw [TrAt]; exact ⟨a, rfl, q⟩, by rw [Tr.wf]; exact c⟩
theorem trs_of {K : PySem.W.Frag} {H : Hp} {p n : Int} {lv : Nat} {d : PyData} {v : V} (h : okBl (okI p n lv) d = true) (dd : Dd K H v d) (hl : lx d ≤ 1000) : ∃ b : List Tr, BodyAt K H b v ∧ okB (lv + 1) b := by
  unfold okBl at h
  split at h
  · rename_i bs
    cases dd with
    | @tup c ys _ q r =>
      have all_ : ∀ {ys : List V} {bs : List PyData}, DdAll K H ys bs → bs.all (okI p n lv) = true → (∀ d ∈ bs, lx d ≤ 1000) → ∃ b : List Tr, TrsAt K H b ys ∧ wfs b lv := by
        intro ys bs
        induction bs generalizing ys with
        | nil =>
          intro r _ _
          cases r
          exact ⟨[], TrsAt.nil, by rw [wfs]; trivial⟩
        | cons e bs ihb =>
          intro r z l
          rw [List.all_cons, Bool.and_eq_true] at z
          cases r with
          | cons h t =>
            obtain ⟨t1, a1, w1⟩ := tr_of lv z.1 h (l e List.mem_cons_self)
            obtain ⟨b1, a2, w2⟩ := ihb t z.2 fun d m => l d (List.mem_cons_of_mem _ m)
            exact ⟨t1 :: b1, by rw [TrsAt]; exact ⟨_, _, rfl, a1, a2⟩, by rw [wfs]; exact ⟨w1, w2⟩⟩
      obtain ⟨b, tb, wb⟩ := all_ r h fun d m => Nat.le_trans (lx_tup m) hl
      refine ⟨b, ⟨c, ys, rfl, q, tb⟩, wb, ?_⟩
      rw [← tb.length, r.length]
      exact Nat.le_trans (lx_len bs) hl
  · cases h
/-! ### t == (), whatever t holds -/
def rEq0 (K : PySem.W.Frag) : R2 := fun x y H Q => ∃ (a b : Addr) (xs : List V), x = .ref a ∧ y = .ref b ∧ SqT K H a xs ∧ SqT K H b [] ∧ Q (.bl xs.isEmpty) H
theorem op_eq0 {X : Cx} (hu : X.A.units + 64 < cLine) : OpR X (compareOp .Eq) (rEq0 X.K) := by
  intro pins s σ H x y v u Q I rx ry h
  obtain ⟨a, b, xs, rfl, rfl, sa, sb, q⟩ := h
  cases rx
  cases ry
  obtain ⟨its, r, p, _⟩ := I.tuple sa
  obtain ⟨its2, r2, p2, _⟩ := I.tuple sb
  cases r2
  refine SeqAt.eq_tupleAt (e := fun _ => true) (show s.heap.IsTuple a its.toArray from p) (show s.heap.IsTuple b ([] : List Value).toArray from p2) (by omega) (fun j h1 h2 => absurd h2 (Nat.not_lt_zero _)) ⟨.bl _, H, I, rfl, ?_⟩
  have e : ((List.range (min its.toArray.size ([] : List Value).toArray.size)).all (fun _ => true) && its.toArray.size == ([] : List Value).toArray.size) = xs.isEmpty := by
    rw [List.size_toArray, ← r.length]
    cases xs with
    | nil => rfl
    | cons x xs =>
      rw [List.length_cons]
      simp
  rw [e]
  exact q
end Lj
set_option Elab.async false
set_option linter.all false
set_option maxRecDepth 100000
set_option maxHeartbeats 1000000
set_option pp.maxSteps 500
set_option pp.deepTerms.threshold 8
set_option pp.deepTerms false
namespace Lj
open PySem PySem.Spec PyProof.Rows L2
/-! ### zip(text, tuple), the text of plain signs -/
def sgn (x : Str) : List V := x.cps.toList.map fun c => V.str ⟨#[c]⟩
theorem sgn_len (x : Str) : (sgn x).length = x.cps.size := by
  unfold sgn
  rw [List.length_map, Array.length_toList]
theorem feed_str {i : Addr} {x : Str} {t : Tok} : Feed i x.cps.size (fun k v => ∃ c u, x.cps[k]? = some c ∧ v = .str ⟨#[c]⟩ u) (fun k h => h.IsStrIter i "str_ascii_iterator" x t k) (fun _ => True) where
  give := fun {_ _ _ _ s k _} hk st _ q => wpAny_nextOf_ascii_item st (Array.getElem?_eq_getElem hk) fun h' a b => q _ h' (s.toks + 1) ⟨_, _, Array.getElem?_eq_getElem hk, rfl⟩ a b
  over := fun {_ _ _ _ s _} hh st _ q => wpAny_nextOf_ascii_end hh st (by simp) fun h' e a b => q h' e s.toks a b
  stay := fun ⟨o, e, r⟩ k => ⟨o, k o e, r⟩
  obj := fun ⟨o, e, _, d⟩ => ⟨o, _, e, d⟩
theorem sr_str {P : Program} {w : World} {K : PySem.W.Frag} {x : Str} {t : Tok} : Sr P w K (fun i k h => h.IsStrIter i "str_ascii_iterator" x t k) (fun _ => True) [] (sgn x) where
  feed := fun {X pins σ H s} e1 e2 e3 I g i => by
    refine ⟨fun k v => ∃ c u, x.cps[k]? = some c ∧ v = .str ⟨#[c]⟩ u, fun _ => True, ?_, trivial, fun _ _ _ _ => trivial, fun k u ⟨c, v, e, h⟩ => ⟨V.str ⟨#[c]⟩, ?_, ?_⟩⟩
    · rw [sgn_len]
      exact feed_str
    · unfold sgn
      rw [List.getElem?_map, Array.getElem?_toList, e]
      rfl
    · exact ⟨v, h⟩
  stay := fun ⟨o, e, r⟩ k => ⟨o, k o e, r⟩
  obj := fun ⟨o, e, _, d⟩ => ⟨o, _, e, d⟩
abbrev oSi (x : Str) (t : Tok) : Obj := { cls := .type "str_ascii_iterator", data := .fields #[.str x t, .int 0 0] }
theorem new_ST (x : Str) (t : Tok) (ha : x.cps.all (· < 128) = true) (l2 : Addr) (ys : Array Value) : Meets (Builtin.«zip.__new__» ⟨[.type "zip", .str x t, .ref l2], []⟩) (fun _ R s => s.heap.IsTuple l2 ys ∧
      R (.ok (.ret (.ref (s.heap.objs.size + 4)))) { s with heap := zh s.heap (oSi x t) (oTi l2) s.heap.objs.size (s.heap.objs.size + 1) }) :=
  .of_wp fun prog w A R s h => by
    obtain ⟨hp, g, d, tk, os⟩ := s; obtain ⟨t2, h⟩ := h
    have sub := sub_zip
    have T2 : Heap.IsTuple (Shared.heap ⟨hp.push { cls := .type "str_ascii_iterator", data := .fields #[.str x t, .int 0 0] }, g, d, tk, os⟩) l2 ys := Heap.IsTuple.push t2 _
    wp_walk using wpAny_pyIter_ascii ha, wpAny_pyIter_tuple T2
    refine ⟨_, rfl, ?_⟩
    simp only [Heap.size_push]
    exact h
def iZipST (K : PySem.W.Frag) (ta : TA) : TI := fun σ H R => ta σ H fun vs H1 => ∃ (x : Str) (b : Addr) (ys : List V), vs = [.str x, .ref b] ∧ x.cps.all (· < 128) = true ∧ SqT K H1 b ys ∧ R (ItF (min (sgn x).length ys.length) (fun H => True ∧ SqT K H b ys) (sgn x) ys) H1
theorem pi_zipST {X : Cx} {e e2 : Expr} {ta : TA} {p pos tpos : Pos} {elts : List Expr} {kk : Nat} (hg : Gl X "zip") (hm : X.mg "zip" = none) (ha : PA X [e, e2] ta)
    (hs : starEach [e, e2] X.env = (false, eval e X.env) :: starEach [e2] X.env := by rfl) (hpl : (backTo pos (starEach [e2] X.env)).any (·.1) = false := by rfl) :
    PI X (.Tuple elts kk tpos) (.Call (.Name "zip" p) [e, e2] [] pos) (iZipST X.K ta) := by
  refine ⟨fun pins s σ H R I h => Call_ (ld_blt I hg hm PyProof.Rows.boot_zip (PyProof.Rows.callWith_type1 (thn (ha.run pos pins s σ H _ I h) fun us s1 ⟨vs, H1, I1, r1, x, b, ys, ex, asc, g2, q⟩ => ?_) hs hpl))⟩
  subst ex
  obtain ⟨u1, u2, rfl, ⟨t, rfl⟩, rb⟩ := r1.two
  cases rb
  obtain ⟨its2, rv2, p2, _⟩ := I1.tuple g2
  have bl : b < s1.heap.objs.size := by
    obtain ⟨o, ho, _⟩ := p2
    exact Heap.lt_size ho
  refine callType_new F.called_zip (by decide) (F.typeCall_zip_2 _ _) (F.newCall_zip_2 _ _) (fun obj => F.args_object_init_3 obj _ _) F.entry_zip_new (new_ST x t asc b its2.toArray) ⟨p2, ?_⟩
  obtain ⟨f1, f2, f3, f4, f5⟩ := zh_sz s1.heap (oSi x t) (oTi b)
  have keep : ∀ c o, s1.heap.get? c = some o → (zh s1.heap (oSi x t) (oTi b) s1.heap.objs.size (s1.heap.objs.size + 1)).get? c = some o := fun c o e => Heap.get?_push_of_some _ (Heap.get?_push_of_some _ (Heap.get?_push_of_some _ (Heap.get?_push_of_some _ (Heap.get?_push_of_some _ e))))
  refine ⟨⟨_, f5, rfl⟩, wpAny_pyIter_zip f5 ?_⟩
  have I2 : Inv X pins σ H1 { s1 with heap := zh s1.heap (oSi x t) (oTi b) s1.heap.objs.size (s1.heap.objs.size + 1) } := I1.kept (t' := s1.toks) keep
  have ap : ∀ {l : Addr}, l < s1.heap.objs.size → l ≠ s1.heap.objs.size + 4 ∧ l ≠ s1.heap.objs.size + 3 ∧ l ≠ s1.heap.objs.size ∧ l ≠ s1.heap.objs.size + 1 := fun {l} h =>
    ⟨Nat.ne_of_lt (Nat.lt_add_right _ h), Nat.ne_of_lt (Nat.lt_add_right _ h), Nat.ne_of_lt h, Nat.ne_of_lt (Nat.lt_add_right _ h)⟩
  refine ⟨s1.heap.objs.size + 4, [s1.heap.objs.size + 4, s1.heap.objs.size + 2, s1.heap.objs.size + 3, s1.heap.objs.size, s1.heap.objs.size + 1], _, _, H1, rfl, I2, turn_F (five_new s1.heap.objs.size) (sr_str (x := x) (t := t)) (sr_tup (a := b) (xs := ys)) (fun l m => absurd m List.not_mem_nil) (fun l m => by rw [List.mem_singleton.mp m]; exact ap bl), ⟨f5, f3, ⟨_, _, f4⟩, ⟨_, f1, rfl, rfl⟩, ⟨_, f2, rfl, rfl⟩⟩, fun c hcm => ?_, q⟩
  have le : s1.heap.objs.size ≤ c := by
    simp only [List.mem_cons, List.not_mem_nil, or_false] at hcm
    rcases hcm with rfl | rfl | rfl | rfl | rfl
    · exact Nat.le_add_right _ _
    · exact Nat.le_add_right _ _
    · exact Nat.le_add_right _ _
    · exact Nat.le_refl _
    · exact Nat.le_add_right _ _
  exact I1.fpOk le (I1.hok.fresh le)
end Lj
set_option Elab.async false
set_option linter.all false
set_option maxRecDepth 100000
set_option pp.maxSteps 500
set_option pp.deepTerms.threshold 8
set_option pp.deepTerms false
namespace Lj
open PySem PySem.Spec PyProof.Rows L2 HT
/-! ### t[::-1], t a tuple -/
section
variable {prog : Program} {w : World} {A : Around} {E : Value → Shared → Prop} {s : Shared}
theorem sliceApplied_rev {sl : Addr} {vl vu vs : Value} {n : Nat} {Q : Int × Int × Nat → Shared → Prop} (hs : s.heap.IsSliceOf sl vl vu vs) (pl : IsPart vl none) (pu : IsPart vu none) (ps : IsPart vs (some (-1)))
    (h : Q ((n : Int) - 1, -1, n) s) : wpAny (model prog w) A (Builtin.Slice.sliceApplied (.ref sl) (pure (n : Int))) Q E s := by
  obtain ⟨os, hos, hcs, hds⟩ := id hs
  unfold Builtin.Slice.sliceApplied Builtin.Slice.sliceFields
  refine wpAny_bind (wpAny_bind (wpAny_field hos hds (x := vl) rfl (wpAny_bind (wpAny_field hos hds (x := vu) rfl (wpAny_bind (wpAny_field hos hds (x := vs) rfl (wpAny_pure ?_)))))))
  refine wpAny_bind (slicePart_ ps ?_)
  show wpAny _ _ (if ((-1 : Int) == 0) = true then _ else _) _ _ s
  rw [if_neg (by decide)]
  refine wpAny_bind (slicePart_ pl (wpAny_bind (slicePart_ pu (wpAny_bind (wpAny_pure ?_)))))
  show wpAny _ _ (match Builtin.Slice.sliceAdjust none none (-1) (n : Int) with | (lo, hi) => pure (lo, (-1 : Int), Builtin.Slice.slicePlaces lo hi (-1))) _ _ s
  have e : Builtin.Slice.sliceAdjust none none (-1) (n : Int) = ((n : Int) - 1, -1) := rfl
  rw [e]
  show wpAny _ _ (pure ((n : Int) - 1, (-1 : Int), Builtin.Slice.slicePlaces ((n : Int) - 1) (-1) (-1))) _ _ s
  have e2 : Builtin.Slice.slicePlaces ((n : Int) - 1) (-1) (-1) = n := by
    unfold Builtin.Slice.slicePlaces
    have h1 : ¬ ((-1 : Int) > 0) := by omega
    have h2 : (- -1 : Int) = 1 := by decide
    simp only [h1, if_false, h2, Int.ediv_one]
    split <;> omega
  rw [e2]
  exact wpAny_pure h
theorem pick_rev (xs : Array Value) : ((List.range xs.size).filterMap fun (m : Nat) => xs[((xs.size : Int) - 1 + (m : Int) * (-1)).toNat]?).toArray = xs.toList.reverse.toArray := by
  have e : (List.range xs.size).filterMap (fun (m : Nat) => xs[((xs.size : Int) - 1 + (m : Int) * (-1)).toNat]?) = ((List.range xs.size).map fun k => xs.size - 1 - k).filterMap (xs[·]?) := by
    rw [List.filterMap_map]
    congr 1
    funext m
    show xs[((xs.size : Int) - 1 + (m : Int) * (-1)).toNat]? = xs[xs.size - 1 - m]?
    have : ((xs.size : Int) - 1 + (m : Int) * (-1)).toNat = xs.size - 1 - m := by omega
    rw [this]
  rw [e, PySem.W.krv_range, List.filterMap_reverse, PySem.W.krv_all]
theorem getItem_tuple_rev {t sl : Addr} {items : Array Value} {vl vu vs : Value} {Q : Value → Shared → Prop} (ht : IsTup s.heap t items) (hs : s.heap.IsSliceOf sl vl vu vs) (pl : IsPart vl none) (pu : IsPart vu none) (ps : IsPart vs (some (-1)))
    (h : Q (.ref s.heap.objs.size) { s with heap := s.heap.push { cls := .type "tuple", data := .seq items.toList.reverse.toArray } })
    (hsz : items.size ≤ sizeLine) : wpAny (model prog w) A (getItem (.ref t) (.ref sl)) Q E s := by
  have htake : sizeOk (.seq items.toList.reverse.toArray) := by
    show items.toList.reverse.toArray.size ≤ sizeLine
    rw [List.size_toArray, List.length_reverse, Array.length_toList]
    exact hsz
  obtain ⟨os, hos, hcs, hds⟩ := id hs
  have hTs : s.TypeIs (.ref sl) "slice" := ⟨os, hos, hcs⟩
  unfold getItem
  try with_reducible refine wpAny_holding ?_
  first | refine wpAny_bind (wpAny_pure ?_) | skip
  refine wpAny_bind (wpAny_sequenceKey ht.typeIs (by decide) ?_)
  refine wpAny_bind (wpAny_callSpecial?_slot (name := Str.ofString "__getitem__") ht.typeIs PyProof.Rows.slot_tuple_getitem
    (wpAny_call_entry PyProof.Rows.slot_tuple_getitem ht.typeIs entry_tuple_getitem ?_ (args_tuple_getitem _ _)))
  show wpAny _ _ (Builtin.Tuple.tupleItemsOf (.ref t) >>= _) _ _ s
  refine wpAny_bind (tupleItemsOf_ ht ?_)
  refine wpAny_bind (wpAny_typeOf hTs ?_)
  rw [if_pos (by decide)]
  refine wpAny_bind (sliceApplied_rev hs pl pu ps ?_)
  have hno : ¬ ((((items.size : Int) - 1) == 0 && (-1 : Int) == 1 && items.size == items.size) = true) := by
    intro q
    rw [Bool.and_eq_true, Bool.and_eq_true] at q
    exact absurd q.1.2 (by decide)
  show wpAny _ _ (if (((items.size : Int) - 1) == 0 && (-1 : Int) == 1 && items.size == items.size) = true then _ else _) _ _ s
  rw [if_neg hno, pick_rev]
  first
    | exact wpAny_bind (m := Builtin.Tuple.tupleExact _) (wpAny_newObj_type (wpAny_pure ⟨_, rfl, wpAny_pure h⟩) htake)
    | exact wpAny_bind (m := Builtin.Tuple.tupleExact _) (wpAny_newObj_type (wpAny_bind (wpAny_pure (wpAny_pure ⟨_, rfl, wpAny_pure h⟩))) htake)
    | exact wpAny_bind (wpAny_bind (m := Builtin.Tuple.tupleExact _) (wpAny_newObj_type (wpAny_pure (wpAny_pure ⟨_, rfl, wpAny_pure h⟩)) htake))
    | exact wpAny_bind (wpAny_bind (m := Builtin.Tuple.tupleExact _) (wpAny_newObj_type (wpAny_pure ⟨_, rfl, wpAny_pure h⟩) htake))
end
def tRevT (K : PySem.W.Frag) (te : TE) : TE := fun σ H Q => te σ H fun x H1 => ∃ a xs, x = .ref a ∧ SqT K H1 a xs ∧ ∀ p, H1 p = none → Q (.ref p) (upd H1 p (.tup xs.reverse))
theorem pe_revT {X : Cx} {e : Expr} {te : TE} {k : Nat} {p1 p2 p3 pos : Pos} (he : PE X e te) : PE X (.Subscript e (.Slice none none (some (.UnaryOp .USub (.Constant (.int 1) k p1) p2)) p3) pos) (tRevT X.K te) := by
  refine ⟨fun pins s σ H Q I h => ?_⟩
  refine Subscript_ (thn (he.run pins s σ H _ I h) fun v s1 ⟨x, H1, I1, r1, q1⟩ => ?_)
  obtain ⟨a, xs, ex, hx, q⟩ := q1
  subst ex
  cases r1
  have hst : PO X (some (.UnaryOp .USub (.Constant (.int 1) k p1) p2)) (tPart (tUn (rU fun i => .int (-i)) (tC (.int 1)))) := po_some (pe_un un_neg pe_int)
  refine wpAny_Slice (thn (po_none.run pins s1 σ H1 (fun o H2 => o = none ∧ H2 = H1) I1 ⟨rfl, rfl⟩) fun vl s2 ⟨l, H2, I2, pl, el, e2⟩ => ?_)
  subst el e2
  refine thn (po_none.run pins s2 σ H2 (fun o H3 => o = none ∧ H3 = H2) I2 ⟨rfl, rfl⟩) fun vu s3 ⟨u, H3, I3, pu, eu, e3⟩ => ?_
  subst eu e3
  refine thn (hst.run pins s3 σ H3 (fun o H4 => o = some (-1) ∧ H4 = H3) I3 ⟨1, rfl, -1, rfl, rfl, rfl⟩) fun vs s4 ⟨o, H4, I4, ps, eo, e4⟩ => ?_
  subst eo e4
  have I5 : Inv X pins σ H4 { s4 with heap := s4.heap.push { cls := .type "slice", data := .fields #[vl, vu, vs] } } := I4.kept (t' := s4.toks) fun b ob q => Heap.get?_push_of_some _ q
  obtain ⟨its, r, ht, hz⟩ := I5.tuple hx
  have hlen := r.length
  show wpAny (model X.prog X.w) X.A (subscriptTail e (.Slice none none (some (.UnaryOp .USub (.Constant (.int 1) k p1) p2)) p3) (.ref a) (.ref s4.heap.objs.size)) (EP X pins σ Q) X.xe { s4 with heap := s4.heap.push { cls := .type "slice", data := .fields #[vl, vu, vs] } }
  refine tail_any (ops := [.ref a, .ref s4.heap.objs.size]) ht.typeIs (PyProof.Rows.slot_tuple_getitem.lookup) ?_ (by with_unfolding_all rfl)
  refine getItem_tuple_rev ht (Heap.IsSliceOf.new _ vl vu vs) pl pu ps ?_ (by rw [List.size_toArray]; omega)
  refine ⟨.ref _, _, I5.laid (t' := s4.toks) (o := .tup xs.reverse) (fun b ob q => Heap.get?_push_of_some _ q) (Nat.le_refl _) ?_, rfl, q _ (I5.hok.fresh (Nat.le_refl _))⟩
  exact ⟨by rw [List.length_reverse]; exact hz, _, r.reverse, IsTup.new _ _⟩
end Lj
set_option Elab.async false
set_option linter.all false
set_option maxRecDepth 100000
set_option pp.maxSteps 500
set_option pp.deepTerms.threshold 8
set_option pp.deepTerms false
namespace Lj
open PySem PySem.Spec PyProof.Rows L2
/-! ### the heap but for some places -/
def ban (B : List Addr) (H : Hp) : Hp := fun b => if b ∈ B then none else H b
def Held (B : List Addr) (H : Hp) : Prop := ∀ x ∈ B, ∃ o, H x = some o
theorem ban_on {B : List Addr} {H : Hp} : Same (ban B H) H := fun b o h => by
  unfold ban at h
  split at h
  · cases h
  · exact h
theorem ban_same {B : List Addr} {H H' : Hp} (s : Same H H') : Same (ban B H) (ban B H') := fun b o h => by
  unfold ban at h ⊢
  split at h
  · cases h
  · rename_i n
    rw [if_neg n]
    exact s _ _ h
theorem ban_but {B : List Addr} {u : Addr} {H H' : Hp} (hu : u ∈ B) (k : But u H H') : Same (ban B H) (ban B H') := fun b o h => by
  unfold ban at h ⊢
  split at h
  · cases h
  · rename_i n
    rw [if_neg n]
    exact k b o (fun e => n (e ▸ hu)) h
theorem Held.same {B : List Addr} {H H' : Hp} (h : Held B H) (s : Same H H') : Held B H' := fun x m => by
  obtain ⟨o, e⟩ := h x m
  exact ⟨o, s _ _ e⟩
theorem Held.but {B : List Addr} {u : Addr} {H H' : Hp} (h : Held B H) (k : But u H H') (e : ∃ o, H' u = some o) : Held B H' := fun x m => by
  by_cases c : x = u
  · subst c
    exact e
  · obtain ⟨o, e⟩ := h x m
    exact ⟨o, k _ _ c e⟩
theorem Held.no {B : List Addr} {H : Hp} {p : Addr} (h : Held B H) (n : H p = none) : p ∉ B := fun m => by
  obtain ⟨o, e⟩ := h p m
  rw [n] at e
  cases e
theorem ban_at {B : List Addr} {H : Hp} {p : Addr} {o : HO} (e : H p = some o) (n : p ∉ B) : ban B H p = some o := by
  unfold ban
  rw [if_neg n]
  exact e
theorem ban_new {B : List Addr} {H : Hp} {p : Addr} {o : HO} (h : Held B H) (n : H p = none) : ban B (upd H p o) p = some o := ban_at upd_same (h.no n)
/-! ### data, part by part -/
theorem DdAll.append {K : PySem.W.Frag} {H : Hp} : ∀ {xs ys : List V} {ds es : List PyData}, DdAll K H xs ds → DdAll K H ys es → DdAll K H (xs ++ ys) (ds ++ es)
  | _, _, _, _, .nil, h => h
  | _, _, _, _, .cons a t, h => .cons a (t.append h)
theorem DdAll.take {K : PySem.W.Frag} {H : Hp} : ∀ {xs : List V} {ds : List PyData} (i : Nat), DdAll K H xs ds → DdAll K H (xs.take i) (ds.take i)
  | _, _, 0, _ => .nil
  | _, _, i + 1, .nil => .nil
  | _, _, i + 1, .cons a t => .cons a (t.take i)
theorem DdAll.drop {K : PySem.W.Frag} {H : Hp} : ∀ {xs : List V} {ds : List PyData} (i : Nat), DdAll K H xs ds → DdAll K H (xs.drop i) (ds.drop i)
  | _, _, 0, h => h
  | _, _, i + 1, .nil => .nil
  | _, _, i + 1, .cons a t => t.drop i
theorem DdAll.reverse {K : PySem.W.Frag} {H : Hp} : ∀ {xs : List V} {ds : List PyData}, DdAll K H xs ds → DdAll K H xs.reverse ds.reverse
  | _, _, .nil => .nil
  | _, _, .cons a t => by
    rw [List.reverse_cons, List.reverse_cons]
    exact t.reverse.append (.cons a .nil)
theorem DdAll.mem {K : PySem.W.Frag} {H : Hp} : ∀ {xs : List V} {ds : List PyData} {x : V}, DdAll K H xs ds → x ∈ xs → ∃ d ∈ ds, Dd K H x d
  | _, _, _, .cons a t, m => by
    rcases List.mem_cons.mp m with rfl | m
    · exact ⟨_, List.mem_cons_self, a⟩
    · obtain ⟨d, m, h⟩ := t.mem m
      exact ⟨d, List.mem_cons_of_mem _ m, h⟩
theorem DdAll.same {K : PySem.W.Frag} {H H' : Hp} (s : Same H H') {vs : List V} {ds : List PyData} (h : DdAll K H vs ds) : DdAll K H' vs ds := h.kt (fun q => s.seq q) (fun q => tup_same s q) (fun q => s _ _ q)
/-! ### measures -/
mutual
def gd : PyData → Prop
  | .list ds => gds ds
  | .tuple ds => gds ds
  | .dict kvs => kvs = []
  | .none => True
  | .bool _ => True
  | .int i => Leaf (.int i)
  | .str x => Leaf (.str x)
def gds : List PyData → Prop
  | [] => True
  | d :: ds => gd d ∧ gds ds
end
mutual
def bt : PyData → Nat
  | .list ds => 5 + bts ds
  | .tuple ds => 5 + bts ds
  | .dict _ => 1923
  | .none => 1923
  | .bool _ => 1923
  | .int i => 1923
  | .str x => 1923
def bts : List PyData → Nat
  | [] => 0
  | d :: ds => bt d + bts ds
end
theorem leaf_bool (b : Bool) : Leaf (.bool b) := ⟨by rw [PyData.showable], by rw [PyData.hasDict], by rw [PyData.depth], by rw [PyData.shown]; cases b <;> decide⟩
mutual
theorem shown_bt : ∀ (d : PyData), gd d → d.showable = true ∧ d.shown.length + 2 ≤ bt d
  | .none, h => by
    obtain ⟨a, _, _, b⟩ := leaf_none
    rw [bt]
    exact ⟨a, by omega⟩
  | .bool x, h => by
    obtain ⟨a, _, _, b⟩ := leaf_bool x
    rw [bt]
    exact ⟨a, by omega⟩
  | .int i, h => by
    rw [gd] at h
    obtain ⟨a, _, _, b⟩ := h
    rw [bt]
    exact ⟨a, by omega⟩
  | .str x, h => by
    rw [gd] at h
    obtain ⟨a, _, _, b⟩ := h
    rw [bt]
    exact ⟨a, by omega⟩
  | .dict kvs, h => by
    rw [gd] at h
    subst h
    rw [bt]
    exact ⟨by rw [PyData.showable, PyData.showableKv], by rw [PyData.shown, PyData.shownKv]; decide⟩
  | .list ds, h => by
    rw [gd] at h
    obtain ⟨a, b, c⟩ := shown_bts ds h
    rw [bt]
    refine ⟨by rw [PyData.showable]; exact a, ?_⟩
    rw [PyData.shown]
    have := PySem.listText_len_le (PyData.shownAll ds)
    omega
  | .tuple ds, h => by
    rw [gd] at h
    obtain ⟨a, b, c⟩ := shown_bts ds h
    rw [bt]
    refine ⟨by rw [PyData.showable]; exact a, ?_⟩
    rw [PyData.shown]
    have := PySem.tupleText_len_le (PyData.shownAll ds)
    omega
theorem shown_bts : ∀ (ds : List PyData), gds ds → PyData.showableAll ds = true ∧ ((PyData.shownAll ds).map (·.length)).sum + 2 * ds.length ≤ bts ds ∧ (PyData.shownAll ds).length = ds.length
  | [], h => by
    rw [PyData.showableAll, PyData.shownAll, bts]
    exact ⟨rfl, Nat.le_refl _, rfl⟩
  | d :: ds, h => by
    rw [gds] at h
    obtain ⟨a, b⟩ := shown_bt d h.1
    obtain ⟨c, e, f⟩ := shown_bts ds h.2
    rw [PyData.showableAll, PyData.shownAll, bts, a, c, List.map_cons, List.sum_cons, List.length_cons, List.length_cons, f]
    exact ⟨rfl, by omega, rfl⟩
end
theorem gds_all : ∀ {ds : List PyData}, gds ds ↔ ∀ d ∈ ds, gd d
  | [] => by
    rw [gds]
    exact ⟨fun _ d m => (nomatch m), fun _ => trivial⟩
  | a :: ds => by
    rw [gds, gds_all, List.forall_mem_cons]
theorem bts_append : ∀ (a b : List PyData), bts (a ++ b) = bts a + bts b
  | [], b => by rw [List.nil_append, bts, Nat.zero_add]
  | x :: a, b => by rw [List.cons_append, bts, bts, bts_append a b, Nat.add_assoc]
theorem bts_cut (ds : List PyData) (i : Nat) : bts (ds.take i) + bts (ds.drop i) = bts ds := by
  rw [← bts_append, List.take_append_drop]
theorem bts_rev : ∀ (ds : List PyData), bts ds.reverse = bts ds
  | [] => rfl
  | x :: ds => by
    rw [List.reverse_cons, bts_append, bts_rev ds, bts, bts, bts]
    omega
theorem bts_mem : ∀ {ds : List PyData} {d : PyData}, d ∈ ds → bt d ≤ bts ds
  | a :: ds, d, m => by
    rw [bts]
    rcases List.mem_cons.mp m with rfl | m
    · omega
    · have := bts_mem m
      omega
theorem bts_at {ds : List PyData} {i : Nat} {d : PyData} (e : ds[i]? = some d) : bts (ds.take i) + bt d + bts (ds.drop (i + 1)) = bts ds := by
  obtain ⟨hi, hd⟩ := List.getElem?_eq_some_iff.mp e
  have h := bts_cut ds i
  rw [List.drop_eq_getElem_cons hi, hd, bts] at h
  omega
theorem dep_mem {ds : List PyData} {d : PyData} (m : d ∈ ds) : d.depth ≤ PyData.depthAll ds := PyData.depth_le_depthAll ds d m
theorem dep_all : ∀ {ds : List PyData} {n : Nat}, (∀ d ∈ ds, d.depth ≤ n) → PyData.depthAll ds ≤ n
  | [], n, _ => by rw [PyData.depthAll]; exact Nat.zero_le _
  | a :: ds, n, h => by
    rw [PyData.depthAll]
    exact Nat.max_le.mpr ⟨h a List.mem_cons_self, dep_all fun d m => h d (List.mem_cons_of_mem _ m)⟩
theorem lx_all : ∀ {ds : List PyData} {n : Nat}, (∀ d ∈ ds, lx d ≤ n) → lxs ds ≤ n
  | [], n, _ => by rw [lxs]; exact Nat.zero_le _
  | a :: ds, n, h => by
    rw [lxs]
    exact Nat.max_le.mpr ⟨h a List.mem_cons_self, lx_all fun d m => h d (List.mem_cons_of_mem _ m)⟩
/-- no more than this comes by one change -/
def Fit (d e : PyData) : Prop := gd e ∧ bt e ≤ 2 * bt d + 20000 ∧ e.depth ≤ d.depth + 2 ∧ lx e ≤ lx d + 4
theorem fits {ds es : List PyData} (h1 : ∀ e ∈ es, gd e ∧ e.depth ≤ PyData.depthAll ds + 2 ∧ lx e ≤ lx (.tuple ds) + 4) (h2 : bts es ≤ 2 * bts ds + 20000) (h3 : es.length ≤ ds.length + 1) : Fit (.tuple ds) (.tuple es) ∧ Fit (.tuple ds) (.list es) := by
  have a : gds es := gds_all.mpr fun e m => (h1 e m).1
  have b : PyData.depthAll es ≤ PyData.depthAll ds + 2 := dep_all fun e m => (h1 e m).2.1
  have c : lxs es ≤ lx (.tuple ds) + 4 := lx_all fun e m => (h1 e m).2.2
  have l := lx_len ds
  have d1 : PyData.depth (.tuple ds) = PyData.depthAll ds + 1 := by rw [PyData.depth]
  have d2 : PyData.depth (.tuple es) = PyData.depthAll es + 1 := by rw [PyData.depth]
  have d3 : PyData.depth (.list es) = PyData.depthAll es + 1 := by rw [PyData.depth]
  have x : max es.length (lxs es) ≤ lx (.tuple ds) + 4 := Nat.max_le.mpr ⟨by omega, c⟩
  refine ⟨⟨by rw [gd]; exact a, by rw [bt, bt]; omega, by omega, by rw [lx]; exact x⟩, ⟨by rw [gd]; exact a, by rw [bt, bt]; omega, by omega, by rw [lx]; exact x⟩⟩
theorem fit_of {ds : List PyData} (g : gd (.tuple ds)) {e : PyData} (m : e ∈ ds) : gd e ∧ e.depth ≤ PyData.depthAll ds + 2 ∧ lx e ≤ lx (.tuple ds) + 4 := by
  rw [gd] at g
  exact ⟨gds_all.mp g e m, by have := dep_mem m; omega, by have := lx_tup m; omega⟩
/-- what may be asked of a value -/
def Sm (d : PyData) : Prop := gd d ∧ bt d ≤ 10000000 ∧ d.depth ≤ 60 ∧ lx d ≤ 1000
theorem Sm.line {d : PyData} (h : Sm d) : d.showable = true ∧ d.depth ≤ 64 ∧ d.shown.length ≤ sizeLine := by
  obtain ⟨a, b⟩ := shown_bt d h.1
  have := h.2.1
  have := h.2.2.1
  exact ⟨a, by omega, by rw [sizeLine_eq]; omega⟩
end Lj
set_option Elab.async false
set_option pp.maxSteps 500
set_option pp.deepTerms.threshold 8
set_option pp.deepTerms false
set_option linter.all false
set_option maxRecDepth 100000
namespace K05
open PySem PySem.Spec PyProof.Rows L2 Lj
def topS (i : Nat) : Stmt := PySem.Challenge.pw_leastjournal_k05_programs_of_any_value.main.body.getD i (.Pass ⟨0, 0, 0, 0⟩)
abbrev sIs_between : Stmt := topS 1
theorem scIs_between : FnScope ["value", "low", "high"] ["value", "low", "high"] (defScope sIs_between) := ⟨rfl, rfl, rfl, by decide +kernel, rfl, by decide +kernel, by decide +kernel⟩
abbrev sIs_program : Stmt := topS 9
theorem scIs_program : FnScope ["p", "n", "value"] ["p", "n", "value"] (defScope sIs_program) := ⟨rfl, rfl, rfl, by decide +kernel, rfl, by decide +kernel, by decide +kernel⟩
abbrev sIs_body : Stmt := topS 10
theorem scIs_body : FnScope ["p", "n", "value", "levels", "part"] ["p", "n", "value", "levels"] (defScope sIs_body) := ⟨rfl, rfl, rfl, by decide +kernel, rfl, by decide +kernel, by decide +kernel⟩
abbrev sIs_instruction : Stmt := topS 11
theorem scIs_instruction : FnScope ["p", "n", "value", "levels"] ["p", "n", "value", "levels"] (defScope sIs_instruction) := ⟨rfl, rfl, rfl, by decide +kernel, rfl, by decide +kernel, by decide +kernel⟩
abbrev sIs_loop : Stmt := topS 12
theorem scIs_loop : FnScope ["p", "n", "value", "levels"] ["p", "n", "value", "levels"] (defScope sIs_loop) := ⟨rfl, rfl, rfl, by decide +kernel, rfl, by decide +kernel, by decide +kernel⟩
abbrev sHas_shape : Stmt := topS 13
theorem scHas_shape : FnScope ["p", "n", "shape", "parts", "many", "least"] ["p", "n", "shape", "parts"] (defScope sHas_shape) := ⟨rfl, rfl, rfl, by decide +kernel, rfl, by decide +kernel, by decide +kernel⟩
abbrev sAre_registers : Stmt := topS 14
theorem scAre_registers : FnScope ["n", "parts", "part"] ["n", "parts"] (defScope sAre_registers) := ⟨rfl, rfl, rfl, by decide +kernel, rfl, by decide +kernel, by decide +kernel⟩
abbrev sSize : Stmt := topS 15
theorem scSize : FnScope ["program", "total", "instruction"] ["program"] (defScope sSize) := ⟨rfl, rfl, rfl, by decide +kernel, rfl, by decide +kernel, by decide +kernel⟩
abbrev sRead_count : Stmt := topS 16
theorem scRead_count : FnScope ["program"] ["program"] (defScope sRead_count) := ⟨rfl, rfl, rfl, by decide +kernel, rfl, by decide +kernel, by decide +kernel⟩
abbrev sWrite_count : Stmt := topS 17
theorem scWrite_count : FnScope ["program"] ["program"] (defScope sWrite_count) := ⟨rfl, rfl, rfl, by decide +kernel, rfl, by decide +kernel, by decide +kernel⟩
abbrev sWord_count : Stmt := topS 18
theorem scWord_count : FnScope ["program", "word", "total", "instruction"] ["program", "word"] (defScope sWord_count) := ⟨rfl, rfl, rfl, by decide +kernel, rfl, by decide +kernel, by decide +kernel⟩
abbrev sUrn : Stmt := topS 20
theorem scUrn : FnScope ["_law_script", "_law_k", "_law_cell", "_law_own"] ["_law_script", "_law_k"] (defScope sUrn) := ⟨rfl, rfl, rfl, by decide +kernel, rfl, by decide +kernel, by decide +kernel⟩
abbrev sTake : Stmt := topS 21
theorem scTake : FnScope ["_law_urn_here", "_law_below", "_law_digit", "_law_mixed"] ["_law_urn_here", "_law_below"] (defScope sTake) := ⟨rfl, rfl, rfl, by decide +kernel, rfl, by decide +kernel, by decide +kernel⟩
abbrev sOf : Stmt := topS 22
theorem scOf : FnScope ["_law_urn_here", "_law_items"] ["_law_urn_here", "_law_items"] (defScope sOf) := ⟨rfl, rfl, rfl, by decide +kernel, rfl, by decide +kernel, by decide +kernel⟩
abbrev sPrime : Stmt := topS 23
theorem scPrime : FnScope ["_law_urn_here"] ["_law_urn_here"] (defScope sPrime) := ⟨rfl, rfl, rfl, by decide +kernel, rfl, by decide +kernel, by decide +kernel⟩
abbrev sItem : Stmt := topS 24
theorem scItem : FnScope ["_law_urn_here", "_law_q", "_law_wide", "_law_words_here", "_law_word", "_law_x", "_law_c", "_law_y"] ["_law_urn_here", "_law_q", "_law_wide", "_law_words_here"] (defScope sItem) := ⟨rfl, rfl, rfl, by decide +kernel, rfl, by decide +kernel, by decide +kernel⟩
abbrev sBody : Stmt := topS 25
theorem scBody : FnScope ["_law_urn_here", "_law_q", "_law_wide", "_law_words_here", "_law_length", "_law_deep", "_law_rounds", "_law_found", "_law_turn", "_law_inner"] ["_law_urn_here", "_law_q", "_law_wide", "_law_words_here", "_law_length", "_law_deep", "_law_rounds"] (defScope sBody) := ⟨rfl, rfl, rfl, by decide +kernel, rfl, by decide +kernel, by decide +kernel⟩
abbrev sWords : Stmt := topS 26
theorem scWords : FnScope [] [] (defScope sWords) := ⟨rfl, rfl, rfl, by decide +kernel, rfl, by decide +kernel, by decide +kernel⟩
abbrev sLint : Stmt := topS 27
theorem scLint : FnScope ["_law_thing", "_law_low", "_law_high"] ["_law_thing", "_law_low", "_law_high"] (defScope sLint) := ⟨rfl, rfl, rfl, by decide +kernel, rfl, by decide +kernel, by decide +kernel⟩
abbrev sLisitem : Stmt := topS 28
theorem scLisitem : FnScope ["_law_q", "_law_wide", "_law_thing", "_law_deep", "_law_kinds", "_law_kind", "_law_sign", "_law_part", "_law_low", "_law_high", "_law_one"] ["_law_q", "_law_wide", "_law_thing", "_law_deep"] (defScope sLisitem) := ⟨rfl, rfl, rfl, by decide +kernel, rfl, by decide +kernel, by decide +kernel⟩
abbrev sMany : Stmt := topS 29
theorem scMany : FnScope ["_law_program", "_law_word", "_law_found", "_law_item_here", "_law_inner"] ["_law_program", "_law_word"] (defScope sMany) := ⟨rfl, rfl, rfl, by decide +kernel, rfl, by decide +kernel, by decide +kernel⟩
abbrev sDue : Stmt := topS 30
theorem scDue : FnScope ["_law_q", "_law_wide", "_law_thing", "_law_item_here"] ["_law_q", "_law_wide", "_law_thing"] (defScope sDue) := ⟨rfl, rfl, rfl, by decide +kernel, rfl, by decide +kernel, by decide +kernel⟩
abbrev sOdd : Stmt := topS 31
theorem scOdd : FnScope ["_law_urn_here", "_law_q", "_law_wide", "_law_some"] ["_law_urn_here", "_law_q", "_law_wide"] (defScope sOdd) := ⟨rfl, rfl, rfl, by decide +kernel, rfl, by decide +kernel, by decide +kernel⟩
abbrev sBent : Stmt := topS 32
theorem scBent : FnScope ["_law_urn_here", "_law_q", "_law_wide", "_law_thing", "_law_at", "_law_way"] ["_law_urn_here", "_law_q", "_law_wide", "_law_thing"] (defScope sBent) := ⟨rfl, rfl, rfl, by decide +kernel, rfl, by decide +kernel, by decide +kernel⟩
abbrev sEdges : Stmt := topS 33
theorem scEdges : FnScope ["_law_one", "_law_deep", "_law_some", "_law_turn", "_law_word", "_law_count"] [] (defScope sEdges) := ⟨rfl, rfl, rfl, by decide +kernel, rfl, by decide +kernel, by decide +kernel⟩
abbrev sShown : Stmt := topS 34
theorem scShown : FnScope ["_law_q", "_law_wide", "_law_thing", "_law_held"] ["_law_q", "_law_wide", "_law_thing"] (defScope sShown) := ⟨rfl, rfl, rfl, by decide +kernel, rfl, by decide +kernel, by decide +kernel⟩
abbrev sLaw : Stmt := topS 35
theorem scLaw : FnScope ["_law_script", "_law_k", "_law_urn_here", "_law_q", "_law_wide", "_law_program", "_law_turn", "_law_some", "_law_thing"] ["_law_script"] (defScope sLaw) := ⟨rfl, rfl, rfl, by decide +kernel, rfl, by decide +kernel, by decide +kernel⟩
section
variable {P : Program} {w : World} {K : PySem.W.Frag} {mg : Str → Option Value} {base : Heap}
theorem take_all {α : Type} (b : List α) : b.take b.length = b := List.take_length
/-! ### size -/
theorem ok_size1 (M : Bl mg) (F : At K mg "size" sSize ["program"]) {n k : Nat} (h : Has P w K mg base k "size" ["program"] (spTI K (okB n) szs)) : Has P w K mg base (k + 1) "size" ["program"] (spTI K (okB (n + 1)) szs) := by
  obtain ⟨fS, fdS, cSize⟩ := h
  refine Has.by F scSize (fun vs H Q E h => ?_) (fun f cdv A out s H vs Q E hg hr h => ?_)
  · obtain ⟨v, t, rfl, _⟩ := h
    rfl
  obtain ⟨v, b, rfl, ⟨c, us, rfl, sq, r⟩, ok, q⟩ := h
  refine ⟨_, (pss_cons (ps_set (i := 1) scSize.nd rfl (.inl rfl) (pe_callB call_len_seq (by rfl) M.len_ (by decide +kernel) (pa_cons (pv 0) pa_nil)))
  (pss_cons (ps_for PassesOwn.never rfl (pi_tup (pv 0)) (pg_name (i := 2) scSize.nd rfl (.inl rfl))
    (pss_one (ps_if (pt_cmpR op_eq (pe_ix ix_tup (pv 2) pe_int (fun _ _ => rfl)) pe_str (nomark _))
    (pss_one (ps_aug (i := 1) scSize.nd rfl (.inl rfl) (pe_cal cSize hg hr (by rfl) (pa_cons (pe_ix ix_tup (pv 2) pe_int (fun _ _ => rfl)) pa_nil)) ip_add))
    pss_nil)))
  (pss_one (ps_ret (pv 1))))), ?_⟩
  refine ⟨_, rfl, c, us, rfl, .inr sq, ?_⟩
  refine ⟨_, rfl, c, rfl, ⟨_, sq⟩, ?_⟩
  refine for_tup (xs := us) (fun i σ H' => ∃ y, σ = [some (.ref c), some (.int ((us.length : Int) + ((b.take i).map Tr.inn).sum)), y] ∧ Same H H') ⟨none, ?_, Same.refl H⟩ (fun i σ H' _ h => ?_) ?_ ?_
  · show _ = [some (V.ref c), some (V.int ((us.length : Int) + 0)), none]
    rw [Int.add_zero]
    rfl
  · obtain ⟨_, _, h⟩ := h
    exact (Kt.same h).sq sq
  · rintro i x σ H' hx ⟨y, rfl, e2⟩
    obtain ⟨t, ht, hT⟩ := r.get hx
    have hT := TrAt.kt (Kt.same e2) t x hT
    cases t with
    | op u as =>
      rw [TrAt] at hT
      obtain ⟨a, rfl, sq3⟩ := hT
      refine ⟨_, rfl, a, _, 0, .str u, rfl, rfl, sq3, at0, rfl, _, rfl, iteN (fun e => okB_op ok ht (V.str.inj e)) ?_⟩
      refine ⟨some (.ref a), ?_, e2⟩
      rw [sum_next ht]
      show _ = [_, some (V.int ((us.length : Int) + (((b.take i).map Tr.inn).sum + 0))), _]
      rw [Int.add_zero]
      rfl
    | loop m b' =>
      rw [TrAt] at hT
      obtain ⟨a, d, ws, rfl, sq3, sq4, r2⟩ := hT
      obtain ⟨c0, c1, ok2⟩ := okB_loop ok ht
      refine ⟨_, rfl, a, _, 0, .str "loop", rfl, rfl, sq3, rfl, rfl, _, rfl, iteP rfl ?_⟩
      refine ⟨_, rfl, _, rfl, a, _, 2, .ref d, rfl, rfl, sq3, rfl, _, b', rfl, ⟨d, ws, rfl, sq4, r2⟩, ok2, fun H2 sm => ?_⟩
      refine ⟨_, _, rfl, rfl, some (.ref a), ?_, e2.trans sm⟩
      rw [sum_next ht]
      show _ = [_, some (V.int ((us.length : Int) + (((b.take i).map Tr.inn).sum + Tr.inn (.loop m b')))), _]
      rw [Tr.inn, ← Int.add_assoc]
      rfl
  · rintro σ H' ⟨y, rfl, e2⟩
    rw [r.length, take_all, ← inns_map]
    exact ⟨_, rfl, q H' e2⟩
theorem ok_size (M : Bl mg) (F : At K mg "size" sSize ["program"]) : ∀ n, Has P w K mg base n "size" ["program"] (spTI K (okB n) szs)
  | 0 => Has.none F fun vs H Q E ⟨_, _, _, _, h, _⟩ => h
  | n + 1 => ok_size1 M F (ok_size M F n)

theorem ok_word1 (M : Bl mg) (F : At K mg "word_count" sWord_count ["program", "word"]) {n k : Nat} (h : Has P w K mg base k "word_count" ["program", "word"] (spWI K (okB n))) : Has P w K mg base (k + 1) "word_count" ["program", "word"] (spWI K (okB (n + 1))) := by
  obtain ⟨fS, fdS, cWord_count⟩ := h
  refine Has.by F scWord_count (fun vs H Q E h => ?_) (fun f cdv A out s H vs Q E hg hr h => ?_)
  · obtain ⟨v, t, z, rfl, _⟩ := h
    rfl
  obtain ⟨v, b, z, rfl, ⟨c, us, rfl, sq, r⟩, ok, hz, q⟩ := h
  refine ⟨_, (pss_cons (ps_set (i := 2) scWord_count.nd rfl (.inl rfl) pe_int)
  (pss_cons (ps_for PassesOwn.never rfl (pi_tup (pv 0)) (pg_name (i := 3) scWord_count.nd rfl (.inl rfl))
    (pss_one (ps_if (pt_cmpR op_eq (pe_ix ix_tup (pv 3) pe_int (fun _ _ => rfl)) pe_str (nomark _))
    (pss_one (ps_aug (i := 2) scWord_count.nd rfl (.inl rfl) (pe_op op_mul (pe_ix ix_tup (pv 3) pe_int (fun _ _ => rfl)) (pe_cal cWord_count hg hr (by rfl) (pa_cons (pe_ix ix_tup (pv 3) pe_int (fun _ _ => rfl)) (pa_cons (pv 1) pa_nil)))) ip_add))
    (pss_one (ps_if (pt_cmpR op_eq (pe_ix ix_tup (pv 3) pe_int (fun _ _ => rfl)) (pv 1) (nomark _))
    (pss_one (ps_aug (i := 2) scWord_count.nd rfl (.inl rfl) pe_int ip_add))
    pss_nil)))))
  (pss_one (ps_ret (pv 2))))), ?_⟩
  refine ⟨_, rfl, c, rfl, ⟨_, sq⟩, ?_⟩
  refine for_tup (xs := us) (fun i σ H' => ∃ y, σ = [some (.ref c), some (.str z), some (.int ((b.take i).map (Tr.cnt z)).sum), y] ∧ Same H H') ⟨none, rfl, Same.refl H⟩ (fun i σ H' _ h => ?_) ?_ ?_
  · obtain ⟨_, _, h⟩ := h
    exact (Kt.same h).sq sq
  · rintro i x σ H' hx ⟨y, rfl, e2⟩
    obtain ⟨t, ht, hT⟩ := r.get hx
    have hT := TrAt.kt (Kt.same e2) t x hT
    rw [sum_next ht]
    cases t with
    | op u as =>
      rw [TrAt] at hT
      obtain ⟨a, rfl, sq3⟩ := hT
      refine ⟨_, rfl, a, _, 0, .str u, rfl, rfl, sq3, at0, rfl, _, rfl, iteN (fun e => okB_op ok ht (V.str.inj e)) ?_⟩
      refine ⟨_, rfl, a, _, 0, .str u, rfl, rfl, sq3, at0, _, rfl, rfl, _, rfl, ?_⟩
      by_cases e : u = z
      · refine iteP (congrArg V.str e) ⟨_, rfl, _, _, rfl, rfl, some (.ref a), ?_, e2⟩
        rw [Tr.cnt, if_pos e]
        rfl
      · refine iteN (fun e' => e (V.str.inj e')) ⟨some (.ref a), ?_, e2⟩
        rw [Tr.cnt, if_neg e, Int.add_zero]
        rfl
    | loop m b' =>
      rw [TrAt] at hT
      obtain ⟨a, d, ws, rfl, sq3, sq4, r2⟩ := hT
      obtain ⟨c0, c1, ok2⟩ := okB_loop ok ht
      refine ⟨_, rfl, a, _, 0, .str "loop", rfl, rfl, sq3, rfl, rfl, _, rfl, iteP rfl ?_⟩
      refine ⟨_, rfl, _, rfl, a, _, 1, .int m, rfl, rfl, sq3, rfl, _, rfl, a, _, 2, .ref d, rfl, rfl, sq3, rfl, _, rfl, _, b', z, rfl, ⟨d, ws, rfl, sq4, r2⟩, ok2, hz, fun H2 sm => ?_⟩
      refine ⟨m, _, rfl, rfl, .inl ⟨by omega, by omega⟩, _, _, rfl, rfl, some (.ref a), ?_, e2.trans sm⟩
      rw [Tr.cnt]
      rfl
  · rintro σ H' ⟨y, rfl, e2⟩
    rw [r.length, take_all, ← cnts_map]
    exact ⟨_, rfl, q H' e2⟩
theorem ok_word (M : Bl mg) (F : At K mg "word_count" sWord_count ["program", "word"]) : ∀ n, Has P w K mg base n "word_count" ["program", "word"] (spWI K (okB n))
  | 0 => Has.none F fun vs H Q E ⟨_, _, _, _, _, h, _⟩ => h
  | n + 1 => ok_word1 M F (ok_word M F n)
theorem ok_read (F : At K mg "read_count" sRead_count ["program"]) {n k : Nat} (h : Has P w K mg base k "word_count" ["program", "word"] (spWI K (okB n))) : Has P w K mg base (k + 1) "read_count" ["program"] (spTI K (okB n) (cnts "read")) := by
  obtain ⟨fS, fdS, cWord_count⟩ := h
  refine Has.by F scRead_count (fun vs H Q E h => ?_) (fun f cdv A out s H vs Q E hg hr h => ?_)
  · obtain ⟨v, t, rfl, _⟩ := h
    rfl
  obtain ⟨v, b, rfl, hB, ok, q⟩ := h
  exact ⟨_, (pss_one (ps_ret (pe_cal cWord_count hg hr (by rfl) (pa_cons (pv 0) (pa_cons pe_str pa_nil))))), _, rfl, v, b, "read", rfl, hB, ok, by decide, q⟩
theorem ok_write (F : At K mg "write_count" sWrite_count ["program"]) {n k : Nat} (h : Has P w K mg base k "word_count" ["program", "word"] (spWI K (okB n))) : Has P w K mg base (k + 1) "write_count" ["program"] (spTI K (okB n) (cnts "write")) := by
  obtain ⟨fS, fdS, cWord_count⟩ := h
  refine Has.by F scWrite_count (fun vs H Q E h => ?_) (fun f cdv A out s H vs Q E hg hr h => ?_)
  · obtain ⟨v, t, rfl, _⟩ := h
    rfl
  obtain ⟨v, b, rfl, hB, ok, q⟩ := h
  exact ⟨_, (pss_one (ps_ret (pe_cal cWord_count hg hr (by rfl) (pa_cons (pv 0) (pa_cons pe_str pa_nil))))), _, rfl, v, b, "write", rfl, hB, ok, by decide, q⟩
end
theorem call_isiK {X : Cx} {K : PySem.W.Frag} (h : X.K = K) : CallR X (.builtin "isinstance") (rIsi K) := h ▸ call_isi
/-- the name of the kind of data -/
def kdn : PyData → String
  | .none => "NoneType"
  | .bool _ => "bool"
  | .int _ => "int"
  | .str _ => "str"
  | .list _ => "list"
  | .tuple _ => "tuple"
  | .dict _ => "dict"
theorem Dd.kind {K : PySem.W.Frag} {H : Hp} {v : V} {d : PyData} (h : Dd K H v d) : TyX K H v (.type (kdn d)) := by
  cases h with
  | non => exact .base .non
  | bl b => exact .base (.bl b)
  | int i => exact .base (.int i)
  | str x => exact .base (.str x)
  | lst q r =>
    rcases q with (q | ⟨o, q⟩) | ⟨o, its, n, q, c, _⟩
    · exact .base (.lst q)
    · exact .base (.frz q)
    · exact .kList q c
  | tup q r =>
    rcases q with (q | ⟨o, q⟩) | ⟨o, its, n, q, c, _⟩
    · exact .base (.tup q)
    · exact .fTuple q
    · exact .kTuple q c
  | dct q e r => exact .base (.dK q)
section
variable {P : Program} {w : World} {K : PySem.W.Frag} {mg : Str → Option Value} {base : Heap}
/-! ### is_between -/
def spBtD (K : PySem.W.Frag) : Sp := fun vs H Q _ => ∃ (v : V) (d : PyData) (lo hi : Int), vs = [v, .int lo, .int hi] ∧ Dd K H v d ∧ Q (.bl (isBd lo hi d)) H
theorem ok_btD (M : Bl mg) (F : At K mg "is_between" sIs_between ["value", "low", "high"]) {k : Nat} : Has P w K mg base (k + 1) "is_between" ["value", "low", "high"] (spBtD K) := by
  refine Has.by F scIs_between (fun vs H Q E h => ?_) (fun f cdv A out s H vs Q E hg hr h => ?_)
  · obtain ⟨_, _, _, _, rfl, _⟩ := h
    rfl
  obtain ⟨v, d, lo, hi, rfl, dd, q⟩ := h
  refine ⟨_, (pss_one (ps_ret (pe_and (pe_callB call_isi (by rfl) M.isinstance_ (by decide +kernel) (pa_cons (pv 0) (pa_cons (pe_bltn (v := .ty "int") (by rfl) M.int_ (by decide +kernel) rfl) pa_nil))) (pe_and (pe_not (pe_callB call_isi (by rfl) M.isinstance_ (by decide +kernel) (pa_cons (pv 0) (pa_cons (pe_bltn (v := .ty "bool") (by rfl) M.bool_ (by decide +kernel) rfl) pa_nil)))) (pe_one (pe_chain op_le op_le (pv 1) (pv 0) (pv 2))))))), ?_⟩
  have ty := Dd.kind dd
  cases dd with
  | int v =>
    refine ⟨_, rfl, _, _, _, _, true, rfl, .ty _, (show TyX K H _ (.type "int") from ty), kit_ty (by decide +kernel), _, rfl, iteT ?_⟩
    refine ⟨_, rfl, _, _, _, _, false, rfl, .ty _, (show TyX K H _ (.type "int") from ty), kit_ty (by decide +kernel), _, rfl, _, rfl, iteT ?_⟩
    refine ⟨_, rfl, _, rfl, lo, v, rfl, rfl, _, rfl, ite2 (fun c => ?_) (fun c => ?_)⟩
    · have c' : decide (lo ≤ v) = true := c
      have q' : Q (.bl (decide (lo ≤ v) && decide (v ≤ hi))) H := q
      rw [c', Bool.true_and] at q'
      exact ⟨_, rfl, v, hi, rfl, rfl, q'⟩
    · have c' : decide (lo ≤ v) = false := Bool.eq_false_iff.mpr c
      have q' : Q (.bl (decide (lo ≤ v) && decide (v ≤ hi))) H := q
      rw [c', Bool.false_and] at q'
      exact q'
  | bl b =>
    refine ⟨_, rfl, _, _, _, _, true, rfl, .ty _, (show TyX K H _ (.type "bool") from ty), kit_ty (by decide +kernel), _, rfl, iteT ?_⟩
    exact ⟨_, rfl, _, _, _, _, true, rfl, .ty _, (show TyX K H _ (.type "bool") from ty), kit_ty (by decide +kernel), _, rfl, _, rfl, iteF q⟩
  | non => exact ⟨_, rfl, _, _, _, _, false, rfl, .ty _, (show TyX K H _ (.type "NoneType") from ty), kit_ty (by decide +kernel), _, rfl, iteF q⟩
  | str x => exact ⟨_, rfl, _, _, _, _, false, rfl, .ty _, (show TyX K H _ (.type "str") from ty), kit_ty (by decide +kernel), _, rfl, iteF q⟩
  | lst a r => exact ⟨_, rfl, _, _, _, _, false, rfl, .ty _, (show TyX K H _ (.type "list") from ty), kit_ty (by decide +kernel), _, rfl, iteF q⟩
  | tup a r => exact ⟨_, rfl, _, _, _, _, false, rfl, .ty _, (show TyX K H _ (.type "tuple") from ty), kit_ty (by decide +kernel), _, rfl, iteF q⟩
  | dct a e r => exact ⟨_, rfl, _, _, _, _, false, rfl, .ty _, (show TyX K H _ (.type "dict") from ty), kit_ty (by decide +kernel), _, rfl, iteF q⟩
/-! ### are_registers -/
def spRegs (K : PySem.W.Frag) : Sp := fun vs H Q _ => ∃ (n : Int) (a : Addr) (xs : List V) (ds : List PyData), vs = [.int n, .ref a] ∧ SqT K H a xs ∧ DdAll K H xs ds ∧ (ds.length = 1 ∨ ds.length = 2) ∧ ∀ H', Same H H' → Q (.bl (regsD n ds)) H'
theorem all_map (f : PyData → Bool) (ds : List PyData) : ((ds.map f).all id) = ds.all f := by
  induction ds with
  | nil => rfl
  | cons d ds ih => rw [List.map_cons, List.all_cons, List.all_cons, ih]; rfl
theorem take_snoc {α β : Type} (f : α → β) {ds : List α} {i : Nat} {d : α} (e : ds[i]? = some d) : (ds.take (i + 1)).map f = (ds.take i).map f ++ [f d] := by
  rw [List.take_add_one, e, List.map_append]
  rfl
theorem ok_regs (M : Bl mg) (F : At K mg "are_registers" sAre_registers ["n", "parts"]) {k : Nat} (h : Has P w K mg base k "is_between" ["value", "low", "high"] (spBtD K)) : Has P w K mg base (k + 1) "are_registers" ["n", "parts"] (spRegs K) := by
  obtain ⟨_, _, cIs_between⟩ := h
  refine Has.by F scAre_registers (fun vs H Q E h => ?_) (fun f cdv A out s H vs Q E hg hr h => ?_)
  · obtain ⟨_, _, _, _, rfl, _⟩ := h
    rfl
  obtain ⟨n, a, xs, ds, rfl, sq, da, dl, q⟩ := h
  have xl := da.length
  refine ⟨_, (pss_cons (ps_if (pt_not (pt_val (pe_callB (cr_all rfl) (by rfl) M.all_ (by decide +kernel) (pa_cons (pe_lc (own := [("part", 2)]) (g := gName 2) (by rfl) scAre_registers.nd (pi_tup (pv 1)) (blkOk_by (own := [("part", 2)]) (N := ["n", "parts", "part"]) (sc := defScope sAre_registers) (by decide +kernel)) (fun _ _ _ _ _ => (pg_name (i := 2) scAre_registers.nd rfl (.inl rfl))) (fun _ _ _ _ _ => pts_nil) (fun _ _ _ _ _ => (pe_cal cIs_between hg hr (by rfl) (pa_cons (pv 2) (pa_cons pe_int (pa_cons (pe_op op_sub (pv 0) pe_int) pa_nil)))))) pa_nil))))
    (pss_one (ps_ret pe_bl))
    pss_nil)
  (pss_one (ps_ret (pe_or (pe_cmpR op_eq (pe_callB call_len_seq (by rfl) M.len_ (by decide +kernel) (pa_cons (pv 1) pa_nil)) pe_int (nomark _)) (pe_one (pe_cmpR op_ne (pe_ix ix_tup (pv 1) pe_int (fun _ _ => rfl)) (pe_ix ix_tup (pv 1) pe_int (fun _ _ => rfl)) (nomark _))))))), ?_⟩
  refine ⟨_, rfl, a, rfl, ⟨_, sq⟩, fun D nD => ?_⟩
  refine lc_tup (xs := xs) (fun i H' => H' D = some (.lst (((ds.take i).map (isBd 0 (n - 1))).map V.bl)) ∧ Same H H') ⟨upd_same, same_new nD⟩ (fun i H' _ h => (Kt.same h.2).sq sq) ?_ ?_
  · rintro i x H1 hx ⟨e1, e2⟩
    obtain ⟨d, hd, dd⟩ := da.get hx
    refine ⟨rfl, _, rfl, _, rfl, n, 1, rfl, rfl, x, d, 0, n - 1, rfl, dd.same e2, _, e1, ?_, ?_, fun b o ho => ?_⟩
    · rw [List.length_map, List.length_map, List.length_take, sizeLine_eq]
      omega
    · rw [upd_same, take_snoc _ hd, List.map_append]
      rfl
    · rw [upd_ne (ne_of_none ho nD)]
      exact e2 _ _ ho
  rintro H1 ⟨e1, e2⟩
  rw [xl, List.take_length] at e1
  refine ⟨D, _, rfl, SqL.of e1, _, rfl, ?_⟩
  rw [all_map]
  by_cases c : ds.all (isBd 0 (n - 1)) = true
  · rw [c]
    refine iteF ?_
    obtain ⟨as, rfl⟩ := ints_of c
    have ex := dd_ints da
    subst ex
    have sq1 := (Kt.same e2).sq sq
    refine ⟨_, rfl, a, _, rfl, .inr sq1, rfl, _, rfl, ?_⟩
    match as, dl, sq1, q, c with
    | [x], _, _, q, c =>
      refine iteT ?_
      have := q H1 e2
      unfold regsD at this
      rw [c] at this
      exact this
    | [x, y], _, sq1, q, c =>
      refine iteF ?_
      refine ⟨_, rfl, a, _, 0, .int x, rfl, rfl, sq1, rfl, _, rfl, a, _, 1, .int y, rfl, rfl, sq1, rfl, rfl, ?_⟩
      have := q H1 e2
      unfold regsD at this
      rw [c] at this
      have e : (!decide (V.int x = V.int y)) = !sameI (.int x) (.int y) := by
        show _ = !decide (x = y)
        by_cases h : x = y
        · rw [decide_eq_true h, decide_eq_true (congrArg V.int h)]
        · rw [decide_eq_false h, decide_eq_false fun z => h (V.int.inj z)]
      rw [e]
      exact this
    | [], dl, _, _, _ => simp at dl
    | _ :: _ :: _ :: _, dl, _, _, _ => simp at dl
  · rw [Bool.eq_false_iff.mpr c]
    refine iteT ?_
    have := q H1 e2
    unfold regsD at this
    rw [Bool.eq_false_iff.mpr c, Bool.false_and] at this
    exact this
/-! ### has_shape -/
def leastV : Option Int → V
  | none => .non
  | some c => .int c
def ShpAt (K : PySem.W.Frag) (t : Addr) (s : Nat × Option Int) : Prop := ∀ H, SqT K H t [.int (s.1 : Int), leastV s.2]
def spShape (K : PySem.W.Frag) : Sp := fun vs H Q _ => ∃ (p n : Int) (t a : Addr) (s : Nat × Option Int) (xs : List V) (ds : List PyData), vs = [.int p, .int n, .ref t, .ref a] ∧ ShpAt K t s ∧ (s.1 = 1 ∨ s.1 = 2) ∧ SqT K H a xs ∧ DdAll K H xs ds ∧ ∀ H', Same H H' → Q (.bl (shapeD p n s ds)) H'
theorem dds_same {K : PySem.W.Frag} {H H' : Hp} {vs : List V} {ds : List PyData} (s : Same H H') (h : DdAll K H vs ds) : DdAll K H' vs ds := h.kt (fun q => s.seq q) (fun q => tup_same s q) (fun q => s _ _ q)
theorem dds_take {K : PySem.W.Frag} {H : Hp} : ∀ {vs : List V} {ds : List PyData} (i : Nat), DdAll K H vs ds → DdAll K H (vs.take i) (ds.take i)
  | _, _, 0, _ => .nil
  | _, _, i + 1, .nil => .nil
  | _, _, i + 1, .cons h t => .cons h (dds_take i t)
theorem dds_drop {K : PySem.W.Frag} {H : Hp} : ∀ {vs : List V} {ds : List PyData} (i : Nat), DdAll K H vs ds → DdAll K H (vs.drop i) (ds.drop i)
  | _, _, 0, h => h
  | _, _, i + 1, .nil => .nil
  | _, _, i + 1, .cons h t => dds_drop i t
/-- a slice of a tuple -/
theorem any_cut {K : PySem.W.Frag} {H : Hp} {a : Addr} {xs ys : List V} {lo hi : Option Int} {Q : V → Hp → Prop} (sq : SqT K H a xs) (e : cutV xs lo hi = ys) (q : ∀ a' H', Same H H' → SqT K H' a' ys → Q (.ref a') H') : rSlA K (.ref a) lo hi H Q := by
  refine ⟨a, _, rfl, sq, fun h => ?_, fun _ p np => ?_⟩
  · have cw := cut_whole _ _ _ h
    rw [e] at cw
    exact q _ H (Same.refl H) (by rw [cw]; exact sq)
  · rw [e]
    exact q _ _ (same_new np) (SqT.of upd_same)
theorem cut_fromA (xs : List V) (i : Nat) : cutV xs (some (i : Int)) none = xs.drop i := by
  unfold cutV
  rw [HT.sIx_none, HT.sIx_nat]
  by_cases h : i ≤ xs.length
  · rw [Nat.min_eq_left h]
    exact List.take_of_length_le (by rw [List.length_drop]; exact Nat.le_refl _)
  · rw [Nat.min_eq_right (by omega), List.drop_length, List.drop_eq_nil_of_le (by omega)]
    exact List.take_nil
theorem decV {a b : Nat} : decide (V.int (a : Int) = V.int (b : Int)) = decide (a = b) := by
  by_cases h : a = b
  · rw [decide_eq_true h, decide_eq_true (by rw [h])]
  · rw [decide_eq_false h, decide_eq_false fun z => h (by have := V.int.inj z; omega)]
theorem ok_shape (M : Bl mg) (F : At K mg "has_shape" sHas_shape ["p", "n", "shape", "parts"]) {k : Nat} (h : Has P w K mg base k "is_between" ["value", "low", "high"] (spBtD K)) (h2 : Has P w K mg base k "are_registers" ["n", "parts"] (spRegs K)) : Has P w K mg base (k + 1) "has_shape" ["p", "n", "shape", "parts"] (spShape K) := by
  obtain ⟨_, _, cIs_between⟩ := h
  obtain ⟨_, _, cAre_registers⟩ := h2
  refine Has.by F scHas_shape (fun vs H Q E h => ?_) (fun f cdv A out s H vs Q E hg hr h => ?_)
  · obtain ⟨_, _, _, _, _, _, _, rfl, _⟩ := h
    rfl
  obtain ⟨p, n, t, a, ⟨many, least⟩, xs, ds, rfl, sh, hm, sq, da, q⟩ := h
  have xl := da.length
  refine ⟨_, (pss_cons (ps_asg (pv 2) (pg_tup rfl (pgs_cons (pg_name (i := 4) scHas_shape.nd rfl (.inl rfl)) (pgs_cons (pg_name (i := 5) scHas_shape.nd rfl (.inl rfl)) pgs_nil))))
  (pss_cons (ps_if (pt_cmpR op_isN (pv 5) pe_non (nomark _))
    (pss_one (ps_ret (pe_and (pe_cmpR op_eq (pe_callB call_len_seq (by rfl) M.len_ (by decide +kernel) (pa_cons (pv 3) pa_nil)) (pv 4) (nomark _)) (pe_one (pe_cal cAre_registers hg hr (by rfl) (pa_cons (pv 1) (pa_cons (pv 3) pa_nil)))))))
    pss_nil)
  (pss_one (ps_ret (pe_and (pe_cmpR op_eq (pe_callB call_len_seq (by rfl) M.len_ (by decide +kernel) (pa_cons (pv 3) pa_nil)) (pe_op op_add (pv 4) pe_int) (nomark _)) (pe_and (pe_cal cAre_registers hg hr (by rfl) (pa_cons (pv 1) (pa_cons (pe_slice sl_tupA (pv 3) po_none (po_some (pv 4))) pa_nil))) (pe_one (pe_cal cIs_between hg hr (by rfl) (pa_cons (pe_ix ix_tup (pv 3) (pv 4) (fun _ _ => rfl)) (pa_cons (pv 5) (pa_cons (pe_op op_sub (pv 0) pe_int) pa_nil))))))))))), ?_⟩
  refine ⟨_, rfl, t, _, rfl, sh H, rfl, _, _, rfl, _, _, rfl, rfl, ?_⟩
  cases least with
  | none =>
    refine ⟨_, rfl, rfl, _, rfl, iteT ?_⟩
    refine ⟨_, rfl, a, _, rfl, .inr sq, _, rfl, rfl, ?_⟩
    show ∃ d, V.bl (decide (V.int ((xs.length : Nat) : Int) = V.int ((many : Nat) : Int))) = V.bl d ∧ _
    rw [decV, xl]
    refine ⟨_, rfl, ?_⟩
    have q' : ∀ H', Same H H' → Q (.bl (decide (ds.length = many) && regsD n ds)) H' := q
    by_cases c : ds.length = many
    · rw [decide_eq_true c]
      refine iteT ⟨_, rfl, _, rfl, n, a, xs, ds, rfl, sq, da, by rw [c]; exact hm, fun H' s => ?_⟩
      have := q' H' s
      rw [decide_eq_true c] at this
      exact this
    · rw [decide_eq_false c]
      have := q' H (Same.refl H)
      rw [decide_eq_false c] at this
      exact iteF this
  | some cl =>
    refine ⟨_, rfl, rfl, _, rfl, iteF ?_⟩
    refine ⟨_, rfl, a, _, rfl, .inr sq, _, rfl, _, _, rfl, rfl, rfl, ?_⟩
    show ∃ d, V.bl (decide (V.int ((xs.length : Nat) : Int) = V.int (((many + 1 : Nat)) : Int))) = V.bl d ∧ _
    rw [decV, xl]
    refine ⟨_, rfl, ?_⟩
    have q' : ∀ H', Same H H' → Q (.bl (decide (ds.length = many + 1) && (regsD n (ds.take many) && isBd cl (p - 1) (ds.getD many .none)))) H' := q
    by_cases c : ds.length = many + 1
    · rw [decide_eq_true c]
      refine iteT ?_
      refine ⟨_, rfl, _, rfl, _, rfl, ((many : Nat) : Int), rfl, any_cut sq (cut_to xs many) fun a2 H2 s2 sq2 => ?_⟩
      refine ⟨n, a2, _, _, rfl, sq2, dds_take many (dds_same s2 da), by rw [List.length_take]; omega, fun H3 s3 => ?_⟩
      have s23 := s2.trans s3
      refine ⟨_, rfl, ?_⟩
      by_cases c2 : regsD n (ds.take many) = true
      · rw [c2]
        have lt : many < xs.length := by omega
        obtain ⟨d, hd, dd⟩ := da.get (i := many) (v := xs[many]) (List.getElem?_eq_getElem lt)
        refine iteT ⟨_, rfl, _, rfl, a, _, _, xs[many], rfl, rfl, (Kt.same s23).sq sq, atI_nat (List.getElem?_eq_getElem lt), _, rfl, _, rfl, p, 1, rfl, rfl, _, d, cl, p - 1, rfl, dd.same s23, ?_⟩
        have := q' H3 s23
        rw [decide_eq_true c, c2, List.getD_eq_getElem?_getD, hd] at this
        exact this
      · have := q' H3 s23
        rw [decide_eq_true c, Bool.eq_false_iff.mpr c2] at this
        rw [Bool.eq_false_iff.mpr c2]
        exact iteF this
    · rw [decide_eq_false c]
      have := q' H (Same.refl H)
      rw [decide_eq_false c] at this
      exact iteF this
end
end K05
set_option Elab.async false
set_option pp.maxSteps 500
set_option pp.deepTerms.threshold 8
set_option pp.deepTerms false
set_option linter.all false
set_option maxRecDepth 100000
namespace K05
open PySem PySem.Spec PyProof.Rows L2 Lj
section
variable {P : Program} {w : World} {K : PySem.W.Frag} {mg : Str → Option Value} {base : Heap}
/-- what the written part holds of the shapes -/
structure Shs (K : PySem.W.Frag) (w : World) (sh : Addr) : Prop where
  kd : ∃ es n, KDict K w sh es n
  get : ∀ z : Str, ∃ r, PySem.W.nsIn K sh z = some r ∧ ((shp z = none ∧ r = none) ∨ ∃ s t, shp z = some s ∧ r = some (.ref t) ∧ ShpAt K t s ∧ (s.1 = 1 ∨ s.1 = 2))
def lpL (p n : Int) : Nat → List PyData → Bool
  | 0, _ => false
  | lv + 1, ds => lpD p (okI p n lv) ds
theorem okI_eq (p n : Int) (lv : Nat) : okI p n lv = okS p n (lpL p n lv) := by
  cases lv with
  | zero => rfl
  | succ lv => rfl
def spIB (K : PySem.W.Frag) (lv : Nat) : Sp := fun vs H Q _ => ∃ (p n : Int) (v : V) (d : PyData), vs = [.int p, .int n, v, .int (lv : Int)] ∧ Dd K H v d ∧ lx d ≤ 1000 ∧ ∀ H', Same H H' → Q (.bl (okBl (okI p n lv) d)) H'
def spIBm (K : PySem.W.Frag) : Nat → Sp
  | 0 => fun _ _ _ _ => False
  | lv + 1 => spIB K lv
def spIN (K : PySem.W.Frag) (lv : Nat) : Sp := fun vs H Q _ => ∃ (p n : Int) (v : V) (d : PyData), vs = [.int p, .int n, v, .int (lv : Int)] ∧ Dd K H v d ∧ lx d ≤ 1000 ∧ ∀ H', Same H H' → Q (.bl (okI p n lv d)) H'
def spIL (K : PySem.W.Frag) (lv : Nat) : Sp := fun vs H Q _ => ∃ (p n : Int) (v : V) (ds : List PyData), vs = [.int p, .int n, v, .int (lv : Int)] ∧ Dd K H v (.tuple (.str "loop" :: ds)) ∧ lx (.tuple (.str "loop" :: ds)) ≤ 1000 ∧ ∀ H', Same H H' → Q (.bl (lpL p n lv ds)) H'
theorem ok_loop (M : Bl mg) (F : At K mg "is_loop" sIs_loop ["p", "n", "value", "levels"]) {tM : Tok} (g_MAX_ROUNDS : mg "MAX_ROUNDS" = some (.int (10 ^ 18) tM)) {k lv : Nat} (h1 : Has P w K mg base k "is_between" ["value", "low", "high"] (spBtD K)) (h2 : Has P w K mg base k "is_body" ["p", "n", "value", "levels"] (spIBm K lv)) :
    Has P w K mg base (k + 1) "is_loop" ["p", "n", "value", "levels"] (spIL K lv) := by
  obtain ⟨_, _, cIs_between⟩ := h1
  obtain ⟨_, _, cIs_body⟩ := h2
  refine Has.by F scIs_loop (fun vs H Q E h => ?_) (fun f cdv A out s H vs Q E hg hr h => ?_)
  · obtain ⟨_, _, _, _, rfl, _⟩ := h
    rfl
  obtain ⟨p, n, v, ds, rfl, dd, hl, q⟩ := h
  refine ⟨_, (pss_one (ps_ret (pe_and (pe_cmpR op_gt (pv 3) pe_int (nomark _)) (pe_and (pe_cmpR op_eq (pe_callB call_len_seq (by rfl) M.len_ (by decide +kernel) (pa_cons (pv 2) pa_nil)) pe_int (nomark _)) (pe_and (pe_cal cIs_between hg hr (by rfl) (pa_cons (pe_ix ix_tup (pv 2) pe_int (fun _ _ => rfl)) (pa_cons pe_int (pa_cons (pe_glob (v := .int (10 ^ 18)) (by rfl) g_MAX_ROUNDS ⟨_, rfl⟩) pa_nil)))) (pe_one (pe_cal cIs_body hg hr (by rfl) (pa_cons (pv 0) (pa_cons (pv 1) (pa_cons (pe_ix ix_tup (pv 2) pe_int (fun _ _ => rfl)) (pa_cons (pe_op op_sub (pv 3) pe_int) pa_nil))))))))))), ?_⟩
  cases dd with
  | @tup a xs _ sq r =>
    cases lv with
    | zero =>
      refine ⟨_, rfl, _, _, rfl, rfl, _, rfl, iteF ?_⟩
      exact q H (Same.refl H)
    | succ lv =>
      refine ⟨_, rfl, ((lv + 1 : Nat) : Int), 0, rfl, rfl, _, rfl, ?_⟩
      rw [decide_eq_true (by omega)]
      refine iteT ⟨_, rfl, a, _, rfl, .inr sq, rfl, ?_⟩
      have xl := r.length
      show ∃ d, V.bl (decide (V.int ((xs.length : Nat) : Int) = V.int ((3 : Nat) : Int))) = V.bl d ∧ _
      rw [decV, xl]
      refine ⟨_, rfl, ?_⟩
      match ds, r, q, hl, xl with
      | [kd, b], r, q, hl, xl =>
        refine iteT ?_
        cases r with
        | @cons v0 vs0 _ _ h0 r =>
          cases r with
          | @cons vk vs1 _ _ hk r =>
            cases r with
            | @cons vb vs2 _ _ hb r =>
              cases r
              refine ⟨_, rfl, a, _, 1, vk, rfl, rfl, sq, rfl, _, kd, 0, 10 ^ 18, rfl, hk, ?_⟩
              have q' : ∀ H', Same H H' → Q (.bl (isBd 0 (10 ^ 18) kd && okBl (okI p n lv) b)) H' := q
              refine ⟨_, rfl, ?_⟩
              by_cases c : isBd 0 (10 ^ 18) kd = true
              · rw [c]
                refine iteT ⟨_, rfl, _, rfl, _, rfl, a, _, 2, vb, rfl, rfl, sq, rfl, _, rfl, _, _, rfl, rfl, p, n, vb, b, ?_, hb, Nat.le_trans (lx_tup (ds := [.str "loop", kd, b]) (by simp)) hl, fun H' s => ?_⟩
                · show [V.int p, V.int n, vb, V.int (((lv + 1 : Nat) : Int) - 1)] = _
                  rw [show ((lv + 1 : Nat) : Int) - 1 = (lv : Int) by omega]
                · have := q' H' s
                  rw [c] at this
                  exact this
              · have := q' H (Same.refl H)
                rw [Bool.eq_false_iff.mpr c] at this
                rw [Bool.eq_false_iff.mpr c]
                exact iteF this
      | [], r, q, hl, xl => exact iteF (q H (Same.refl H))
      | [_], r, q, hl, xl => exact iteF (q H (Same.refl H))
      | _ :: _ :: _ :: ds, r, q, hl, xl =>
        rw [decide_eq_false (by simp)]
        exact iteF (q H (Same.refl H))
theorem ok_instr (M : Bl mg) (m_str : mg "str" = none) (F : At K mg "is_instruction" sIs_instruction ["p", "n", "value", "levels"]) {sh : Addr} (g_SHAPES : mg "SHAPES" = some (.ref sh)) (S : Shs K w sh) {k lv : Nat} (h1 : Has P w K mg base k "is_loop" ["p", "n", "value", "levels"] (spIL K lv)) (h2 : Has P w K mg base k "has_shape" ["p", "n", "shape", "parts"] (spShape K)) :
    Has P w K mg base (k + 1) "is_instruction" ["p", "n", "value", "levels"] (spIN K lv) := by
  obtain ⟨_, _, cIs_loop⟩ := h1
  obtain ⟨_, _, cHas_shape⟩ := h2
  obtain ⟨es, ne, kd⟩ := S.kd
  refine Has.by F scIs_instruction (fun vs H Q E h => ?_) (fun f cdv A out s H vs Q E hg hr h => ?_)
  · obtain ⟨_, _, _, _, rfl, _⟩ := h
    rfl
  obtain ⟨p, n, v, d, rfl, dd, hl, q⟩ := h
  rw [okI_eq] at q
  refine ⟨_, (pss_cons (ps_if (PW.pt (pw_or (pt_not (pt_val (pe_callB call_isi (by rfl) M.isinstance_ (by decide +kernel) (pa_cons (pv 2) (pa_cons (pe_bltn (v := .ty "tuple") (by rfl) M.tuple_ (by decide +kernel) rfl) pa_nil))))) (pw_or (pt_cmpR (op_eq0 hr.units) (pv 2) (pe_tup pa_nil) (nomark _)) (pw_or1 (pt_not (pt_val (pe_callB call_isi (by rfl) M.isinstance_ (by decide +kernel) (pa_cons (pe_ix ix_tup (pv 2) pe_int (fun _ _ => rfl)) (pa_cons (pe_bltn (v := .ty "str") (by rfl) m_str (by decide +kernel) rfl) pa_nil)))))))))
    (pss_one (ps_ret pe_bl))
    pss_nil)
  (pss_cons (ps_if (pt_cmpR op_eq (pe_ix ix_tup (pv 2) pe_int (fun _ _ => rfl)) pe_str (nomark _))
    (pss_one (ps_ret (pe_cal cIs_loop hg hr (by rfl) (pa_cons (pv 0) (pa_cons (pv 1) (pa_cons (pv 2) (pa_cons (pv 3) pa_nil)))))))
    pss_nil)
  (pss_one (ps_ret (pe_and (pe_cmpR (op_in_kd kd) (pe_ix ix_tup (pv 2) pe_int (fun _ _ => rfl)) (pe_glob (v := .ref sh) (by rfl) g_SHAPES rfl) (by rfl)) (pe_one (pe_cal cHas_shape hg hr (by rfl) (pa_cons (pv 0) (pa_cons (pv 1) (pa_cons (pe_ix ix_kdict (pe_glob (v := .ref sh) (by rfl) g_SHAPES rfl) (pe_ix ix_tup (pv 2) pe_int (fun _ _ => rfl)) (fun _ _ => rfl)) (pa_cons (pe_slice sl_tupA (pv 2) (po_some pe_int) po_none) pa_nil))))))))))), ?_⟩
  have ty := Dd.kind dd
  have ddv := dd
  cases dd with
  | int i => exact ⟨_, rfl, _, _, _, _, false, rfl, .ty _, (show TyX K H _ (.type "int") from ty), kit_ty (by decide +kernel), _, rfl, iteT (q H (Same.refl H))⟩
  | bl i => exact ⟨_, rfl, _, _, _, _, false, rfl, .ty _, (show TyX K H _ (.type "bool") from ty), kit_ty (by decide +kernel), _, rfl, iteT (q H (Same.refl H))⟩
  | non => exact ⟨_, rfl, _, _, _, _, false, rfl, .ty _, (show TyX K H _ (.type "NoneType") from ty), kit_ty (by decide +kernel), _, rfl, iteT (q H (Same.refl H))⟩
  | str i => exact ⟨_, rfl, _, _, _, _, false, rfl, .ty _, (show TyX K H _ (.type "str") from ty), kit_ty (by decide +kernel), _, rfl, iteT (q H (Same.refl H))⟩
  | lst a r => exact ⟨_, rfl, _, _, _, _, false, rfl, .ty _, (show TyX K H _ (.type "list") from ty), kit_ty (by decide +kernel), _, rfl, iteT (q H (Same.refl H))⟩
  | dct a e r => exact ⟨_, rfl, _, _, _, _, false, rfl, .ty _, (show TyX K H _ (.type "dict") from ty), kit_ty (by decide +kernel), _, rfl, iteT (q H (Same.refl H))⟩
  | @tup a xs ds sq r =>
    refine ⟨_, rfl, _, _, _, _, true, rfl, .ty _, (show TyX K H _ (.type "tuple") from ty), kit_ty (by decide +kernel), _, rfl, iteF ?_⟩
    refine ⟨_, rfl, (by show 0 ≤ sizeLine; decide), fun t0 nt0 => ?_⟩
    have s0 := same_new (o := .tup []) nt0
    refine ⟨a, t0, xs, rfl, rfl, (Kt.same s0).sq sq, SqT.of upd_same, _, rfl, ?_⟩
    cases r with
    | nil => exact iteT (q _ s0)
    | @cons v0 vs0 d0 ds0 h0 r =>
      refine iteF ?_
      have sq0 := (Kt.same s0).sq sq
      have ty0 := Dd.kind (h0.same s0)
      refine ⟨_, rfl, a, _, 0, v0, rfl, rfl, sq0, at0, ?_⟩
      cases h0 with
      | int i => exact ⟨_, _, _, _, false, rfl, .ty _, (show TyX K _ _ (.type "int") from ty0), kit_ty (by decide +kernel), _, rfl, iteT (q _ s0)⟩
      | bl i => exact ⟨_, _, _, _, false, rfl, .ty _, (show TyX K _ _ (.type "bool") from ty0), kit_ty (by decide +kernel), _, rfl, iteT (q _ s0)⟩
      | non => exact ⟨_, _, _, _, false, rfl, .ty _, (show TyX K _ _ (.type "NoneType") from ty0), kit_ty (by decide +kernel), _, rfl, iteT (q _ s0)⟩
      | lst _ _ => exact ⟨_, _, _, _, false, rfl, .ty _, (show TyX K _ _ (.type "list") from ty0), kit_ty (by decide +kernel), _, rfl, iteT (q _ s0)⟩
      | tup _ _ => exact ⟨_, _, _, _, false, rfl, .ty _, (show TyX K _ _ (.type "tuple") from ty0), kit_ty (by decide +kernel), _, rfl, iteT (q _ s0)⟩
      | dct _ _ _ => exact ⟨_, _, _, _, false, rfl, .ty _, (show TyX K _ _ (.type "dict") from ty0), kit_ty (by decide +kernel), _, rfl, iteT (q _ s0)⟩
      | str z =>
        refine ⟨_, _, _, _, true, rfl, .ty _, (show TyX K _ _ (.type "str") from ty0), kit_ty (by decide +kernel), _, rfl, iteF ?_⟩
        refine ⟨_, rfl, a, _, 0, .str z, rfl, rfl, sq0, at0, rfl, _, rfl, ?_⟩
        have q' : ∀ H', Same H H' → Q (.bl (if z = "loop" then lpL p n lv ds0 else match shp z with | none => false | some s => shapeD p n s ds0)) H' := q
        by_cases c : z = "loop"
        · subst c
          refine iteP rfl ⟨_, rfl, _, rfl, _, rfl, _, rfl, p, n, _, ds0, rfl, ddv.same s0, hl, fun H' s => ?_⟩
          exact q' H' (s0.trans s)
        · refine iteN (fun e => c (V.str.inj e)) ?_
          rw [if_neg c] at q'
          obtain ⟨r9, e9, h9⟩ := S.get z
          refine ⟨_, rfl, a, _, 0, .str z, rfl, rfl, sq0, at0, z, r9, rfl, rfl, e9, ?_⟩
          rcases h9 with ⟨en, rfl⟩ | ⟨sp, t, es9, rfl, sa, sm⟩
          · rw [en] at q'
            exact ⟨_, rfl, iteF (q' _ s0)⟩
          · rw [es9] at q'
            refine ⟨_, rfl, iteT ?_⟩
            refine ⟨_, rfl, _, rfl, _, rfl, a, _, 0, .str z, rfl, rfl, sq0, at0, sh, z, .ref t, rfl, rfl, ⟨es, ne, .ref t, kd.at_, kd.lit, e9, rfl⟩, ?_⟩
            refine ⟨_, rfl, 1, rfl, ?_⟩
            dsimp only [tNoPart]
            refine any_cut (ys := vs0) sq0 (cut_tail _ _) fun a2 H2 s2 sq2 => ?_
            exact ⟨p, n, t, a2, sp, vs0, ds0, rfl, sa, sm, sq2, dds_same (s0.trans s2) r, fun H' s => q' H' ((s0.trans s2).trans s)⟩
theorem ok_body1 (M : Bl mg) (F : At K mg "is_body" sIs_body ["p", "n", "value", "levels"]) {k lv : Nat} (h1 : Has P w K mg base k "is_instruction" ["p", "n", "value", "levels"] (spIN K lv)) :
    Has P w K mg base (k + 1) "is_body" ["p", "n", "value", "levels"] (spIB K lv) := by
  obtain ⟨_, _, cIs_instruction⟩ := h1
  refine Has.by F scIs_body (fun vs H Q E h => ?_) (fun f cdv A out s H vs Q E hg hr h => ?_)
  · obtain ⟨_, _, _, _, rfl, _⟩ := h
    rfl
  obtain ⟨p, n, v, d, rfl, dd, hl, q⟩ := h
  refine ⟨_, (pss_one (ps_ret (pe_and (pe_callB call_isi (by rfl) M.isinstance_ (by decide +kernel) (pa_cons (pv 2) (pa_cons (pe_bltn (v := .ty "tuple") (by rfl) M.tuple_ (by decide +kernel) rfl) pa_nil))) (pe_one (pe_callB (cr_all rfl) (by rfl) M.all_ (by decide +kernel) (pa_cons (pe_lc (own := [("part", 4)]) (g := gName 4) (by rfl) scIs_body.nd (pi_tup (pv 2)) (blkOk_by (own := [("part", 4)]) (N := ["p", "n", "value", "levels", "part"]) (sc := defScope sIs_body) (by decide +kernel)) (fun _ _ _ _ _ => (pg_name (i := 4) scIs_body.nd rfl (.inl rfl))) (fun _ _ _ _ _ => pts_nil) (fun _ _ _ _ _ => (pe_cal cIs_instruction hg hr (by rfl) (pa_cons (pv 0) (pa_cons (pv 1) (pa_cons (pv 4) (pa_cons (pv 3) pa_nil))))))) pa_nil)))))), ?_⟩
  have ty := Dd.kind dd
  cases dd with
  | int i => exact ⟨_, rfl, _, _, _, _, false, rfl, .ty _, (show TyX K H _ (.type "int") from ty), kit_ty (by decide +kernel), _, rfl, iteF (q H (Same.refl H))⟩
  | bl i => exact ⟨_, rfl, _, _, _, _, false, rfl, .ty _, (show TyX K H _ (.type "bool") from ty), kit_ty (by decide +kernel), _, rfl, iteF (q H (Same.refl H))⟩
  | non => exact ⟨_, rfl, _, _, _, _, false, rfl, .ty _, (show TyX K H _ (.type "NoneType") from ty), kit_ty (by decide +kernel), _, rfl, iteF (q H (Same.refl H))⟩
  | str i => exact ⟨_, rfl, _, _, _, _, false, rfl, .ty _, (show TyX K H _ (.type "str") from ty), kit_ty (by decide +kernel), _, rfl, iteF (q H (Same.refl H))⟩
  | lst a r => exact ⟨_, rfl, _, _, _, _, false, rfl, .ty _, (show TyX K H _ (.type "list") from ty), kit_ty (by decide +kernel), _, rfl, iteF (q H (Same.refl H))⟩
  | dct a e r => exact ⟨_, rfl, _, _, _, _, false, rfl, .ty _, (show TyX K H _ (.type "dict") from ty), kit_ty (by decide +kernel), _, rfl, iteF (q H (Same.refl H))⟩
  | @tup a xs ds sq r =>
    refine ⟨_, rfl, _, _, _, _, true, rfl, .ty _, (show TyX K H _ (.type "tuple") from ty), kit_ty (by decide +kernel), _, rfl, iteT ?_⟩
    refine ⟨_, rfl, a, rfl, ⟨_, sq⟩, fun D nD => ?_⟩
    have xl := r.length
    have dlen : ds.length ≤ 1000 := Nat.le_trans (lx_len ds) hl
    refine lc_tup (xs := xs) (fun i H' => H' D = some (.lst (((ds.take i).map (okI p n lv)).map V.bl)) ∧ Same H H') ⟨upd_same, same_new nD⟩ (fun i H' _ h => (Kt.same h.2).sq sq) ?_ ?_
    · rintro i x H1 hx ⟨e1, e2⟩
      obtain ⟨d, hd, dd⟩ := r.get hx
      refine ⟨rfl, _, rfl, _, rfl, _, rfl, _, rfl, p, n, x, d, rfl, dd.same e2, Nat.le_trans (lx_tup (List.mem_of_getElem? hd)) hl, fun H2 s2 => ⟨_, s2 _ _ e1, ?_, ?_, fun b o ho => ?_⟩⟩
      · rw [List.length_map, List.length_map, List.length_take, sizeLine_eq]
        omega
      · rw [upd_same, take_snoc _ hd, List.map_append]
        rfl
      · rw [upd_ne (ne_of_none ho nD)]
        exact s2 _ _ (e2 _ _ ho)
    rintro H1 ⟨e1, e2⟩
    rw [xl, List.take_length] at e1
    refine ⟨D, _, rfl, SqL.of e1, ?_⟩
    rw [all_map]
    exact q H1 e2
theorem ok_isbody (M : Bl mg) (m_str : mg "str" = none) (FB : At K mg "is_body" sIs_body ["p", "n", "value", "levels"]) (FI : At K mg "is_instruction" sIs_instruction ["p", "n", "value", "levels"]) (FL : At K mg "is_loop" sIs_loop ["p", "n", "value", "levels"]) {tM : Tok} (gM : mg "MAX_ROUNDS" = some (.int (10 ^ 18) tM)) {sh : Addr} (gS : mg "SHAPES" = some (.ref sh)) (S : Shs K w sh)
    (h1 : Has P w K mg base 1 "is_between" ["value", "low", "high"] (spBtD K)) (h2 : Has P w K mg base 3 "has_shape" ["p", "n", "shape", "parts"] (spShape K)) : ∀ lv : Nat, Has P w K mg base (3 * lv + 5) "is_body" ["p", "n", "value", "levels"] (spIB K lv)
  | 0 => ok_body1 M FB (ok_instr M m_str FI gS S ((ok_loop (lv := 0) M FL gM h1 (Has.none (k := 1) FB fun _ _ _ _ h => h)).up (by decide)) h2)
  | lv + 1 => ((ok_body1 M FB (ok_instr M m_str FI gS S (ok_loop M FL gM (h1.up (by omega)) (ok_isbody M m_str FB FI FL gM gS S h1 h2 lv)) (h2.up (by omega)))).up (by omega))
/-! ### is_program -/
/-- what is asked of a program that is passed in -/
def okP (p n : Int) (d : PyData) (b : List Tr) : Bool := okBl (okI p n 4) d && (decide (szs b ≤ 200) && (decide (cnts "read" b ≤ 2000) && decide (cnts "write" b ≤ 2000)))
def spIP (K : PySem.W.Frag) : Sp := fun vs H Q _ => ∃ (p n : Int) (v : V) (d : PyData) (b : List Tr), vs = [.int p, .int n, v] ∧ Dd K H v d ∧ lx d ≤ 1000 ∧ (okBl (okI p n 4) d = true → BodyAt K H b v ∧ okB 5 b) ∧ ∀ H', Same H H' → Q (.bl (okP p n d b)) H'
theorem ok_isprog (F : At K mg "is_program" sIs_program ["p", "n", "value"]) {t1 t2 t3 t4 : Tok} (g_MAX_DEPTH : mg "MAX_DEPTH" = some (.int 4 t1)) (g_MAX_SIZE : mg "MAX_SIZE" = some (.int 200 t2)) (g_MAX_READS : mg "MAX_READS" = some (.int 2000 t3)) (g_MAX_WRITES : mg "MAX_WRITES" = some (.int 2000 t4)) {k : Nat} (h1 : Has P w K mg base k "is_body" ["p", "n", "value", "levels"] (spIB K 4)) (h2 : Has P w K mg base k "size" ["program"] (spTI K (okB 5) szs))
    (h3 : Has P w K mg base k "read_count" ["program"] (spTI K (okB 5) (cnts "read"))) (h4 : Has P w K mg base k "write_count" ["program"] (spTI K (okB 5) (cnts "write"))) : Has P w K mg base (k + 1) "is_program" ["p", "n", "value"] (spIP K) := by
  obtain ⟨_, _, cIs_body⟩ := h1
  obtain ⟨_, _, cSize⟩ := h2
  obtain ⟨_, _, cRead_count⟩ := h3
  obtain ⟨_, _, cWrite_count⟩ := h4
  refine Has.by F scIs_program (fun vs H Q E h => ?_) (fun f cdv A out s H vs Q E hg hr h => ?_)
  · obtain ⟨_, _, _, _, _, rfl, _⟩ := h
    rfl
  obtain ⟨p, n, v, d, b, rfl, dd, hl, hb, q⟩ := h
  refine ⟨_, (pss_one (ps_ret (pe_and (pe_cal cIs_body hg hr (by rfl) (pa_cons (pv 0) (pa_cons (pv 1) (pa_cons (pv 2) (pa_cons (pe_glob (v := .int 4) (by rfl) g_MAX_DEPTH ⟨_, rfl⟩) pa_nil))))) (pe_and (pe_cmpR op_le (pe_cal cSize hg hr (by rfl) (pa_cons (pv 2) pa_nil)) (pe_glob (v := .int 200) (by rfl) g_MAX_SIZE ⟨_, rfl⟩) (nomark _)) (pe_and (pe_cmpR op_le (pe_cal cRead_count hg hr (by rfl) (pa_cons (pv 2) pa_nil)) (pe_glob (v := .int 2000) (by rfl) g_MAX_READS ⟨_, rfl⟩) (nomark _)) (pe_one (pe_cmpR op_le (pe_cal cWrite_count hg hr (by rfl) (pa_cons (pv 2) pa_nil)) (pe_glob (v := .int 2000) (by rfl) g_MAX_WRITES ⟨_, rfl⟩) (nomark _)))))))), ?_⟩
  refine ⟨_, rfl, _, rfl, _, rfl, p, n, v, d, rfl, dd, hl, fun H1 s1 => ⟨_, rfl, ?_⟩⟩
  unfold okP at q
  by_cases c : okBl (okI p n 4) d = true
  · obtain ⟨ba, ok⟩ := hb c
    rw [c] at q ⊢
    refine iteT ⟨_, rfl, v, b, rfl, ba.kt (Kt.same s1), ok, fun H2 s2 => ⟨_, _, rfl, rfl, _, rfl, ?_⟩⟩
    have s12 := s1.trans s2
    by_cases c2 : szs b ≤ 200
    · rw [decide_eq_true c2] at q ⊢
      refine iteT ⟨_, rfl, v, b, rfl, ba.kt (Kt.same s12), ok, fun H3 s3 => ⟨_, _, rfl, rfl, _, rfl, ?_⟩⟩
      have s13 := s12.trans s3
      by_cases c3 : cnts "read" b ≤ 2000
      · rw [decide_eq_true c3] at q ⊢
        exact iteT ⟨_, rfl, v, b, rfl, ba.kt (Kt.same s13), ok, fun H4 s4 => ⟨_, _, rfl, rfl, q H4 (s13.trans s4)⟩⟩
      · rw [decide_eq_false c3] at q ⊢
        exact iteF (q H3 s13)
    · rw [decide_eq_false c2] at q ⊢
      exact iteF (q H2 s12)
  · rw [Bool.eq_false_iff.mpr c] at q ⊢
    exact iteF (q H1 s1)
end
end K05
set_option Elab.async false
set_option pp.maxSteps 500
set_option pp.deepTerms.threshold 8
set_option pp.deepTerms false
set_option linter.all false
set_option maxRecDepth 100000
namespace K05
open PySem PySem.Spec PyProof.Rows L2 Lj
/-! ### the law's own kinds -/
def knd (z : Str) : Str := if z = "set" then "rc" else if z = "copy" then "rr" else if z = "add" then "rre" else if z = "scale" then "rc" else if z = "swap" then "rr" else if z = "read" then "r" else if z = "write" then "r" else ""
def bdS (p n : Int) (c : Nat) : Int × Int := if c = 114 then (0, n - 1) else if c = 99 then (0, p - 1) else (1, p - 1)
def chk (p n : Int) : List Nat → List PyData → Bool
  | c :: cs, d :: ds => isBd (bdS p n c).1 (bdS p n c).2 d && chk p n cs ds
  | _, _ => true
/-- two registers are not the same -/
def twoD (k : Str) (ds : List PyData) : Bool := decide (cutS k none (some 2) ≠ "rr") || !sameI (ds.getD 0 .none) (ds.getD 1 .none)
def kndOk (p n : Int) (k : Str) (ds : List PyData) : Bool := decide (ds.length = k.length) && (chk p n k.cps.toList ds && twoD k ds)
theorem knd_cases (z : Str) : (shp z = none ∧ knd z = "") ∨ (shp z = some (1, some 0) ∧ knd z = "rc") ∨ (shp z = some (2, none) ∧ knd z = "rr") ∨ (shp z = some (2, some 1) ∧ knd z = "rre") ∨ (shp z = some (1, none) ∧ knd z = "r") := by
  unfold shp knd
  repeat (split; · simp)
  simp
theorem isBd_none {lo hi : Int} : isBd lo hi .none = false := rfl
theorem same_sym (a b : PyData) : sameI a b = sameI a b := rfl
theorem kd_rc {p n : Int} (ds : List PyData) : shapeD p n (1, some 0) ds = kndOk p n "rc" ds := by
  unfold shapeD kndOk twoD
  have e1 : (("rc" : Str).length) = 2 := by decide
  have e2 : ("rc" : Str).cps.toList = [114, 99] := by decide
  have e3 : decide (cutS "rc" none (some 2) ≠ ("rr" : Str)) = true := by decide
  rw [e1, e2, e3]
  match ds with
  | [a, b] =>
    show (true && (regsD n [a] && isBd 0 (p - 1) b)) = (true && ((isBd (bdS p n 114).1 (bdS p n 114).2 a && (isBd (bdS p n 99).1 (bdS p n 99).2 b && true)) && true))
    unfold regsD bdS
    simp
  | [] => rfl
  | [a] => rfl
  | a :: b :: c :: r => simp
theorem kd_rr {p n : Int} (ds : List PyData) : shapeD p n (2, none) ds = kndOk p n "rr" ds := by
  unfold shapeD kndOk twoD
  have e1 : (("rr" : Str).length) = 2 := by decide
  have e2 : ("rr" : Str).cps.toList = [114, 114] := by decide
  have e3 : decide (cutS "rr" none (some 2) ≠ ("rr" : Str)) = false := by decide
  rw [e1, e2, e3]
  match ds with
  | [a, b] =>
    show (true && regsD n [a, b]) = (true && ((isBd (bdS p n 114).1 (bdS p n 114).2 a && (isBd (bdS p n 114).1 (bdS p n 114).2 b && true)) && (false || !sameI a b)))
    unfold regsD bdS
    simp
  | [] => rfl
  | [a] => rfl
  | a :: b :: c :: r => simp
theorem kd_rre {p n : Int} (ds : List PyData) : shapeD p n (2, some 1) ds = kndOk p n "rre" ds := by
  unfold shapeD kndOk twoD
  have e1 : (("rre" : Str).length) = 3 := by decide
  have e2 : ("rre" : Str).cps.toList = [114, 114, 101] := by decide
  have e3 : decide (cutS "rre" none (some 2) ≠ ("rr" : Str)) = false := by decide
  rw [e1, e2, e3]
  match ds with
  | [a, b, c] =>
    show (true && (regsD n [a, b] && isBd 1 (p - 1) c)) = (true && ((isBd (bdS p n 114).1 (bdS p n 114).2 a && (isBd (bdS p n 114).1 (bdS p n 114).2 b && (isBd (bdS p n 101).1 (bdS p n 101).2 c && true))) && (false || !sameI a b)))
    unfold regsD bdS
    simp
    cases isBd 0 (n - 1) a <;> cases isBd 0 (n - 1) b <;> cases isBd 1 (p - 1) c <;> cases sameI a b <;> rfl
  | [] => rfl
  | [a] => rfl
  | [a, b] => rfl
  | a :: b :: c :: d :: r => simp
theorem kd_r {p n : Int} (ds : List PyData) : shapeD p n (1, none) ds = kndOk p n "r" ds := by
  unfold shapeD kndOk twoD
  have e1 : (("r" : Str).length) = 1 := by decide
  have e2 : ("r" : Str).cps.toList = [114] := by decide
  have e3 : decide (cutS "r" none (some 2) ≠ ("rr" : Str)) = true := by decide
  rw [e1, e2, e3]
  match ds with
  | [a] =>
    show (true && regsD n [a]) = (true && ((isBd (bdS p n 114).1 (bdS p n 114).2 a && true) && true))
    unfold regsD bdS
    simp
  | [] => rfl
  | a :: b :: r => simp
/-- the kinds say what the shapes say -/
theorem knd_shape (p n : Int) (z : Str) (ds : List PyData) : (match shp z with | none => false | some s => shapeD p n s ds) = (decide (knd z ≠ "") && kndOk p n (knd z) ds) := by
  rcases knd_cases z with ⟨h, k⟩ | ⟨h, k⟩ | ⟨h, k⟩ | ⟨h, k⟩ | ⟨h, k⟩
  · rw [h, k]
    rfl
  · rw [h, k, ← kd_rc]
    rfl
  · rw [h, k, ← kd_rr]
    rfl
  · rw [h, k, ← kd_rre]
    rfl
  · rw [h, k, ← kd_r]
    rfl
theorem knd_asc (z : Str) : (knd z).cps.all (· < 128) = true ∧ (knd z).length ≤ 3 ∧ ∀ c ∈ (knd z).cps.toList, c = 114 ∨ c = 99 ∨ c = 101 := by
  rcases knd_cases z with ⟨_, k⟩ | ⟨_, k⟩ | ⟨_, k⟩ | ⟨_, k⟩ | ⟨_, k⟩ <;> rw [k] <;> exact ⟨by decide +kernel, by decide +kernel, by decide +kernel⟩
end K05
set_option Elab.async false
set_option pp.maxSteps 500
set_option pp.deepTerms.threshold 8
set_option pp.deepTerms false
set_option linter.all false
set_option maxRecDepth 100000
namespace K05
open PySem PySem.Spec PyProof.Rows L2 Lj
section
variable {P : Program} {w : World} {K : PySem.W.Frag} {mg : Str → Option Value} {base : Heap}
theorem ok_lint (M : Bl mg) (F : At K mg "_law_int" sLint ["_law_thing", "_law_low", "_law_high"]) {k : Nat} : Has P w K mg base (k + 1) "_law_int" ["_law_thing", "_law_low", "_law_high"] (spBtD K) := by
  refine Has.by F scLint (fun vs H Q E h => ?_) (fun f cdv A out s H vs Q E hg hr h => ?_)
  · obtain ⟨_, _, _, _, rfl, _⟩ := h
    rfl
  obtain ⟨v, d, lo, hi, rfl, dd, q⟩ := h
  refine ⟨_, (pss_one (ps_ret (pe_and (pe_callB call_isi (by rfl) M.isinstance_ (by decide +kernel) (pa_cons (pv 0) (pa_cons (pe_bltn (v := .ty "int") (by rfl) M.int_ (by decide +kernel) rfl) pa_nil))) (pe_and (pe_not (pe_callB call_isi (by rfl) M.isinstance_ (by decide +kernel) (pa_cons (pv 0) (pa_cons (pe_bltn (v := .ty "bool") (by rfl) M.bool_ (by decide +kernel) rfl) pa_nil)))) (pe_one (pe_chain op_le op_le (pv 1) (pv 0) (pv 2))))))), ?_⟩
  have ty := Dd.kind dd
  cases dd with
  | int v =>
    refine ⟨_, rfl, _, _, _, _, true, rfl, .ty _, (show TyX K H _ (.type "int") from ty), kit_ty (by decide +kernel), _, rfl, iteT ?_⟩
    refine ⟨_, rfl, _, _, _, _, false, rfl, .ty _, (show TyX K H _ (.type "int") from ty), kit_ty (by decide +kernel), _, rfl, _, rfl, iteT ?_⟩
    refine ⟨_, rfl, _, rfl, lo, v, rfl, rfl, _, rfl, ite2 (fun c => ?_) (fun c => ?_)⟩
    · have c' : decide (lo ≤ v) = true := c
      have q' : Q (.bl (decide (lo ≤ v) && decide (v ≤ hi))) H := q
      rw [c', Bool.true_and] at q'
      exact ⟨_, rfl, v, hi, rfl, rfl, q'⟩
    · have c' : decide (lo ≤ v) = false := Bool.eq_false_iff.mpr c
      have q' : Q (.bl (decide (lo ≤ v) && decide (v ≤ hi))) H := q
      rw [c', Bool.false_and] at q'
      exact q'
  | bl b =>
    refine ⟨_, rfl, _, _, _, _, true, rfl, .ty _, (show TyX K H _ (.type "bool") from ty), kit_ty (by decide +kernel), _, rfl, iteT ?_⟩
    exact ⟨_, rfl, _, _, _, _, true, rfl, .ty _, (show TyX K H _ (.type "bool") from ty), kit_ty (by decide +kernel), _, rfl, _, rfl, iteF q⟩
  | non => exact ⟨_, rfl, _, _, _, _, false, rfl, .ty _, (show TyX K H _ (.type "NoneType") from ty), kit_ty (by decide +kernel), _, rfl, iteF q⟩
  | str x => exact ⟨_, rfl, _, _, _, _, false, rfl, .ty _, (show TyX K H _ (.type "str") from ty), kit_ty (by decide +kernel), _, rfl, iteF q⟩
  | lst a r => exact ⟨_, rfl, _, _, _, _, false, rfl, .ty _, (show TyX K H _ (.type "list") from ty), kit_ty (by decide +kernel), _, rfl, iteF q⟩
  | tup a r => exact ⟨_, rfl, _, _, _, _, false, rfl, .ty _, (show TyX K H _ (.type "tuple") from ty), kit_ty (by decide +kernel), _, rfl, iteF q⟩
  | dct a e r => exact ⟨_, rfl, _, _, _, _, false, rfl, .ty _, (show TyX K H _ (.type "dict") from ty), kit_ty (by decide +kernel), _, rfl, iteF q⟩
def kv7 : List (Key × V) := [(Sum.inr "set", .str "rc"), (Sum.inr "copy", .str "rr"), (Sum.inr "add", .str "rre"), (Sum.inr "scale", .str "rc"), (Sum.inr "swap", .str "rr"), (Sum.inr "read", .str "r"), (Sum.inr "write", .str "r")]
theorem inr_ne {x z : Str} (h : ¬ z = x) : ¬ (Sum.inr x : Key) = Sum.inr z := fun e => h (Sum.inr.inj e).symm
theorem kv7_merge : mergeK [] kv7 = kv7 := by decide +kernel
theorem kv7_get (z : Str) : (valV (mergeK [] kv7) (Sum.inr z)).getD (.str "") = .str (knd z) := by
  rw [kv7_merge]
  unfold knd kv7
  by_cases h1 : z = "set"
  · subst h1; rfl
  rw [if_neg h1, valV_neg (inr_ne h1)]
  by_cases h2 : z = "copy"
  · subst h2; rfl
  rw [if_neg h2, valV_neg (inr_ne h2)]
  by_cases h3 : z = "add"
  · subst h3; rfl
  rw [if_neg h3, valV_neg (inr_ne h3)]
  by_cases h4 : z = "scale"
  · subst h4; rfl
  rw [if_neg h4, valV_neg (inr_ne h4)]
  by_cases h5 : z = "swap"
  · subst h5; rfl
  rw [if_neg h5, valV_neg (inr_ne h5)]
  by_cases h6 : z = "read"
  · subst h6; rfl
  rw [if_neg h6, valV_neg (inr_ne h6)]
  by_cases h7 : z = "write"
  · subst h7; rfl
  rw [if_neg h7, valV_neg (inr_ne h7)]
  rfl
theorem chk_snoc {p n : Int} : ∀ {cs : List Nat} {ds : List PyData} {i c : Nat} {d : PyData}, cs[i]? = some c → ds[i]? = some d → chk p n (cs.take i) (ds.take i) = true → chk p n (cs.take (i + 1)) (ds.take (i + 1)) = isBd (bdS p n c).1 (bdS p n c).2 d
  | a :: cs, b :: ds, 0, c, d, h1, h2, _ => by
    cases h1
    cases h2
    show (_ && chk p n (cs.take 0) (ds.take 0)) = _
    rw [List.take_zero, chk, Bool.and_true]
    intro _ _ _ _ h
    cases h
  | a :: cs, b :: ds, i + 1, c, d, h1, h2, h3 => by
    rw [List.take_succ_cons, List.take_succ_cons, chk, Bool.and_eq_true] at h3
    rw [List.take_succ_cons, List.take_succ_cons, chk, h3.1, Bool.true_and]
    exact chk_snoc (i := i) h1 h2 h3.2
theorem chk_false {p n : Int} : ∀ {cs : List Nat} {ds : List PyData} {i : Nat}, chk p n (cs.take i) (ds.take i) = false → chk p n cs ds = false
  | [], ds, i, h => by
    rw [List.take_nil] at h
    cases h
  | a :: cs, [], i, h => by
    rw [List.take_nil] at h
    cases i <;> cases h
  | a :: cs, b :: ds, 0, h => by cases h
  | a :: cs, b :: ds, i + 1, h => by
    rw [List.take_succ_cons, List.take_succ_cons, chk] at h
    rw [chk]
    cases c : isBd (bdS p n a).1 (bdS p n a).2 b with
    | false => rfl
    | true =>
      rw [c, Bool.true_and] at h
      rw [chk_false h]
      rfl
def spLI (K : PySem.W.Frag) (lv : Nat) : Sp := fun vs H Q _ => ∃ (p n : Int) (v : V) (d : PyData), vs = [.int p, .int n, v, .int (lv : Int)] ∧ Dd K H v d ∧ lx d ≤ 1000 ∧ ∀ H', Same H H' → Q (.bl (okI p n lv d)) H'
def spLIm (K : PySem.W.Frag) : Nat → Sp
  | 0 => fun _ _ _ _ => False
  | lv + 1 => spLI K lv
theorem short_no {p n : Int} {lv : Nat} (d : PyData) : okS p n (lpL p n lv) (.tuple [d]) = false := by
  cases d with
  | str z =>
    show (if z = "loop" then lpL p n lv [] else _) = false
    by_cases c : z = "loop"
    · rw [if_pos c]
      cases lv <;> rfl
    · rw [if_neg c]
      refine (knd_shape p n z []).trans ?_
      unfold kndOk
      by_cases h : knd z = ""
      · rw [decide_eq_false (fun z => z h)]
        rfl
      · have : ([] : List PyData).length ≠ (knd z).length := fun e => h (by
          rcases knd_cases z with ⟨_, k⟩ | ⟨_, k⟩ | ⟨_, k⟩ | ⟨_, k⟩ | ⟨_, k⟩
          · exact k
          · rw [k] at e; cases e
          · rw [k] at e; cases e
          · rw [k] at e; cases e
          · rw [k] at e; cases e)
        rw [decide_eq_false this, Bool.false_and, Bool.and_false]
  | _ => rfl
end
end K05
set_option Elab.async false
set_option pp.maxSteps 500
set_option pp.deepTerms.threshold 8
set_option pp.deepTerms false
set_option linter.all false
set_option maxRecDepth 100000
namespace K05
open PySem PySem.Spec PyProof.Rows L2 Lj
theorem no_part {σ : L2.St} {H : Hp} {Q : Option Int → Hp → Prop} (h : Q none H) : tNoPart σ H Q := h
section
variable {P : Program} {w : World} {K : PySem.W.Frag} {mg : Str → Option Value} {base : Heap}
set_option maxHeartbeats 4000000 in
theorem ok_item1 (M : Bl mg) (m_str : mg "str" = none) (F : At K mg "_law_is_item" sLisitem ["_law_q", "_law_wide", "_law_thing", "_law_deep"]) {k lv : Nat} (h1 : Has P w K mg base k "_law_int" ["_law_thing", "_law_low", "_law_high"] (spBtD K)) (h2 : Has P w K mg base k "_law_is_item" ["_law_q", "_law_wide", "_law_thing", "_law_deep"] (spLIm K lv)) :
    Has P w K mg base (k + 1) "_law_is_item" ["_law_q", "_law_wide", "_law_thing", "_law_deep"] (spLI K lv) := by
  obtain ⟨_, _, cLint⟩ := h1
  obtain ⟨_, _, cLisitem⟩ := h2
  refine Has.by F scLisitem (fun vs H Q E h => ?_) (fun f cdv A out s H vs Q E hg hr h => ?_)
  · obtain ⟨_, _, _, _, rfl, _⟩ := h
    rfl
  obtain ⟨p, n, v, d, rfl, dd, hl, q⟩ := h
  rw [okI_eq] at q
  refine ⟨_, (pss_cons (ps_if (PW.pt (pw_or (pt_not (pt_val (pe_callB call_isi (by rfl) M.isinstance_ (by decide +kernel) (pa_cons (pv 2) (pa_cons (pe_bltn (v := .ty "tuple") (by rfl) M.tuple_ (by decide +kernel) rfl) pa_nil))))) (pw_or (pt_cmpR op_lt (pe_callB call_len_seq (by rfl) M.len_ (by decide +kernel) (pa_cons (pv 2) pa_nil)) pe_int (nomark _)) (pw_or1 (pt_not (pt_val (pe_callB call_isi (by rfl) M.isinstance_ (by decide +kernel) (pa_cons (pe_ix ix_tup (pv 2) pe_int (fun _ _ => rfl)) (pa_cons (pe_bltn (v := .ty "str") (by rfl) m_str (by decide +kernel) rfl) pa_nil)))))))))
    (pss_one (ps_ret pe_bl))
    pss_nil)
  (pss_cons (ps_set (i := 4) scLisitem.nd rfl (.inl rfl) (pe_disp (pps_cons pe_str pe_str (pps_cons pe_str pe_str (pps_cons pe_str pe_str (pps_cons pe_str pe_str (pps_cons pe_str pe_str (pps_cons pe_str pe_str (pps_cons pe_str pe_str pps_nil))))))) rfl rfl (by decide) (by decide)))
  (pss_cons (ps_if (pt_cmpR op_eq (pe_ix ix_tup (pv 2) pe_int (fun _ _ => rfl)) pe_str (nomark _))
    (pss_cons (ps_if (PW.pt (pw_or (pt_cmpR op_ne (pe_callB call_len_seq (by rfl) M.len_ (by decide +kernel) (pa_cons (pv 2) pa_nil)) pe_int (nomark _)) (pw_or (pt_cmpR op_eq (pv 3) pe_int (nomark _)) (pw_or1 (pt_not (pt_val (pe_cal cLint hg hr (by rfl) (pa_cons (pe_ix ix_tup (pv 2) pe_int (fun _ _ => rfl)) (pa_cons pe_int (pa_cons (pe_op op_pow pe_int pe_int) pa_nil))))))))))
    (pss_one (ps_ret pe_bl))
    pss_nil)
  (pss_one (ps_ret (pe_and (pe_callB call_isi (by rfl) M.isinstance_ (by decide +kernel) (pa_cons (pe_ix ix_tup (pv 2) pe_int (fun _ _ => rfl)) (pa_cons (pe_bltn (v := .ty "tuple") (by rfl) M.tuple_ (by decide +kernel) rfl) pa_nil))) (pe_one (pe_callB (cr_all rfl) (by rfl) M.all_ (by decide +kernel) (pa_cons (pe_lc (own := [("_law_one", 10)]) (g := gName 10) (by rfl) scLisitem.nd (pi_tup (pe_ix ix_tup (pv 2) pe_int (fun _ _ => rfl))) (blkOk_by (own := [("_law_one", 10)]) (N := ["_law_q", "_law_wide", "_law_thing", "_law_deep", "_law_kinds", "_law_kind", "_law_sign", "_law_part", "_law_low", "_law_high", "_law_one"]) (sc := defScope sLisitem) (by decide +kernel)) (fun _ _ _ _ _ => (pg_name (i := 10) scLisitem.nd rfl (.inl rfl))) (fun _ _ _ _ _ => pts_nil) (fun _ _ _ _ _ => (pe_cal cLisitem hg hr (by rfl) (pa_cons (pv 0) (pa_cons (pv 1) (pa_cons (pv 10) (pa_cons (pe_op op_sub (pv 3) pe_int) pa_nil))))))) pa_nil)))))))
    pss_nil)
  (pss_cons (ps_set (i := 5) scLisitem.nd rfl (.inl rfl) (pe_dget2 (un1 hr) (pv 4) (pe_ix ix_tup (pv 2) pe_int (fun _ _ => rfl)) pe_str ⟨rfl, rfl, rfl, rfl⟩))
  (pss_cons (ps_if (PW.pt (pw_or (pt_cmpR op_eq (pv 5) pe_str (nomark _)) (pw_or1 (pt_cmpR op_ne (pe_callB call_len_seq (by rfl) M.len_ (by decide +kernel) (pa_cons (pv 2) pa_nil)) (pe_op op_add pe_int (pe_callB call_len_str (by rfl) M.len_ (by decide +kernel) (pa_cons (pv 5) pa_nil))) (nomark _)))))
    (pss_one (ps_ret pe_bl))
    pss_nil)
  (pss_cons (ps_for PassesOwn.never rfl (pi_zipST (by rfl) M.zip_ (pa_cons (pv 5) (pa_cons (pe_slice sl_tupA (pv 2) (po_some pe_int) po_none) pa_nil))) (pg_tup rfl (pgs_cons (pg_name (i := 6) scLisitem.nd rfl (.inl rfl)) (pgs_cons (pg_name (i := 7) scLisitem.nd rfl (.inl rfl)) pgs_nil)))
    (pss_cons (ps_asg (pe_dget (un1 hr) (pe_disp (pps_cons pe_str (pe_tup (pa_cons pe_int (pa_cons (pe_op op_sub (pv 1) pe_int) pa_nil))) (pps_cons pe_str (pe_tup (pa_cons pe_int (pa_cons (pe_op op_sub (pv 0) pe_int) pa_nil))) (pps_cons pe_str (pe_tup (pa_cons pe_int (pa_cons (pe_op op_sub (pv 0) pe_int) pa_nil))) pps_nil))) rfl rfl (by decide) (by decide)) (pv 6) (fun _ _ => rfl)) (pg_tup rfl (pgs_cons (pg_name (i := 8) scLisitem.nd rfl (.inl rfl)) (pgs_cons (pg_name (i := 9) scLisitem.nd rfl (.inl rfl)) pgs_nil))))
  (pss_one (ps_if (pt_not (pt_val (pe_cal cLint hg hr (by rfl) (pa_cons (pv 7) (pa_cons (pv 8) (pa_cons (pv 9) pa_nil))))))
    (pss_one (ps_ret pe_bl))
    pss_nil))))
  (pss_one (ps_ret (pe_or (pe_cmpR op_ne (pe_slice sl_str (pv 5) po_none (po_some pe_int)) pe_str (nomark _)) (pe_one (pe_cmpR op_ne (pe_ix ix_tup (pv 2) pe_int (fun _ _ => rfl)) (pe_ix ix_tup (pv 2) pe_int (fun _ _ => rfl)) (nomark _)))))))))))), ?_⟩
  have ty := Dd.kind dd
  cases dd with
  | int i => exact ⟨_, rfl, _, _, _, _, false, rfl, .ty _, (show TyX K H _ (.type "int") from ty), kit_ty (by decide +kernel), _, rfl, iteT (q H (Same.refl H))⟩
  | bl i => exact ⟨_, rfl, _, _, _, _, false, rfl, .ty _, (show TyX K H _ (.type "bool") from ty), kit_ty (by decide +kernel), _, rfl, iteT (q H (Same.refl H))⟩
  | non => exact ⟨_, rfl, _, _, _, _, false, rfl, .ty _, (show TyX K H _ (.type "NoneType") from ty), kit_ty (by decide +kernel), _, rfl, iteT (q H (Same.refl H))⟩
  | str i => exact ⟨_, rfl, _, _, _, _, false, rfl, .ty _, (show TyX K H _ (.type "str") from ty), kit_ty (by decide +kernel), _, rfl, iteT (q H (Same.refl H))⟩
  | lst a r => exact ⟨_, rfl, _, _, _, _, false, rfl, .ty _, (show TyX K H _ (.type "list") from ty), kit_ty (by decide +kernel), _, rfl, iteT (q H (Same.refl H))⟩
  | dct a e r => exact ⟨_, rfl, _, _, _, _, false, rfl, .ty _, (show TyX K H _ (.type "dict") from ty), kit_ty (by decide +kernel), _, rfl, iteT (q H (Same.refl H))⟩
  | @tup a xs ds sq r =>
    refine ⟨_, rfl, _, _, _, _, true, rfl, .ty _, (show TyX K H _ (.type "tuple") from ty), kit_ty (by decide +kernel), _, rfl, iteF ?_⟩
    refine ⟨_, rfl, a, _, rfl, .inr sq, _, _, rfl, rfl, _, rfl, ?_⟩
    have xl := r.length
    match ds, r, q, hl, xl with
    | [], r, q, hl, xl =>
      rw [xl]
      exact iteT (q H (Same.refl H))
    | [d0], r, q, hl, xl =>
      rw [xl]
      refine iteT ?_
      have := q H (Same.refl H)
      rw [short_no] at this
      exact this
    | d0 :: d1 :: ds1, r, q, hl, xl =>
    have x2 : ¬ ((xs.length : Nat) : Int) < 2 := by
      rw [xl, List.length_cons, List.length_cons]
      omega
    rw [decide_eq_false x2]
    refine iteF ?_
    cases r with
    | @cons v0 vs0 _ _ h0 rt =>
    have ty0 := Dd.kind h0
    refine ⟨_, rfl, a, _, 0, v0, rfl, rfl, sq, at0, ?_⟩
    cases h0 with
    | int i => exact ⟨_, _, _, _, false, rfl, .ty _, (show TyX K _ _ (.type "int") from ty0), kit_ty (by decide +kernel), _, rfl, iteT (q _ (Same.refl H))⟩
    | bl i => exact ⟨_, _, _, _, false, rfl, .ty _, (show TyX K _ _ (.type "bool") from ty0), kit_ty (by decide +kernel), _, rfl, iteT (q _ (Same.refl H))⟩
    | non => exact ⟨_, _, _, _, false, rfl, .ty _, (show TyX K _ _ (.type "NoneType") from ty0), kit_ty (by decide +kernel), _, rfl, iteT (q _ (Same.refl H))⟩
    | lst _ _ => exact ⟨_, _, _, _, false, rfl, .ty _, (show TyX K _ _ (.type "list") from ty0), kit_ty (by decide +kernel), _, rfl, iteT (q _ (Same.refl H))⟩
    | tup _ _ => exact ⟨_, _, _, _, false, rfl, .ty _, (show TyX K _ _ (.type "tuple") from ty0), kit_ty (by decide +kernel), _, rfl, iteT (q _ (Same.refl H))⟩
    | dct _ _ _ => exact ⟨_, _, _, _, false, rfl, .ty _, (show TyX K _ _ (.type "dict") from ty0), kit_ty (by decide +kernel), _, rfl, iteT (q _ (Same.refl H))⟩
    | str z =>
    refine ⟨_, _, _, _, true, rfl, .ty _, (show TyX K _ _ (.type "str") from ty0), kit_ty (by decide +kernel), _, rfl, iteF ?_⟩
    -- the kinds
    refine fun kd nkd => ⟨upd_same, kv7, rfl, (by decide), ?_⟩
    rw [upd_upd]
    obtain ⟨H1, hH1⟩ : ∃ H1, H1 = upd H kd (.dK (mergeK [] kv7)) := ⟨_, rfl⟩
    rw [← hH1]
    have s1 : Same H H1 := by rw [hH1]; exact same_new nkd
    have k1 : H1 kd = some (.dK (mergeK [] kv7)) := by rw [hH1]; exact upd_same
    have sq1 := (Kt.same s1).sq sq
    have r1 := dds_same s1 rt
    have xl1 : vs0.length = (d1 :: ds1).length := rt.length
    refine ⟨_, rfl, a, _, 0, .str z, rfl, rfl, sq1, at0, rfl, _, rfl, ?_⟩
    have q' : ∀ H', Same H H' → Q (.bl (if z = "loop" then lpL p n lv (d1 :: ds1) else match shp z with | none => false | some s => shapeD p n s (d1 :: ds1))) H' := q
    by_cases c : z = "loop"
    · subst c
      refine iteP rfl ?_
      have q2 : ∀ H', Same H H' → Q (.bl (lpL p n lv (d1 :: ds1))) H' := q'
      refine ⟨_, rfl, a, _, rfl, .inr sq1, rfl, _, rfl, ?_⟩
      show if (!decide (V.int (((V.str "loop" :: vs0).length : Nat) : Int) = V.int ((3 : Nat) : Int))) = true then _ else _
      rw [decV, List.length_cons, xl1]
      match ds1, r1, q2, hl, xl1 with
      | [], r1, q2, hl, xl1 =>
        refine iteT ?_
        have := q2 H1 s1
        cases lv <;> exact this
      | _ :: _ :: ds3, r1, q2, hl, xl1 =>
        rw [decide_eq_false (by simp)]
        refine iteT ?_
        have := q2 H1 s1
        cases lv <;> exact this
      | [b], r1, q2, hl, xl1 =>
        refine iteF ?_
        refine ⟨_, rfl, rfl, _, rfl, ?_⟩
        cases lv with
        | zero => exact iteT (q2 H1 s1)
        | succ lv =>
          refine iteN (fun e => by have := V.int.inj e; omega) ?_
          cases r1 with
          | @cons vk vs1 _ _ hk rk =>
          cases rk with
          | @cons vb vs2 _ _ hb rz =>
          cases rz
          refine ⟨_, rfl, a, _, 1, vk, rfl, rfl, sq1, rfl, 10, 18, rfl, rfl, ⟨by decide, by decide, by decide⟩, vk, d1, 0, _, rfl, hk, _, rfl, ?_⟩
          have q3 : ∀ H', Same H H' → Q (.bl (isBd 0 (10 ^ 18) d1 && okBl (okI p n lv) b)) H' := q2
          show if (!isBd 0 (10 ^ 18) d1) = true then _ else _
          by_cases c2 : isBd 0 (10 ^ 18) d1 = true
          · rw [c2] at q3 ⊢
            refine iteF ?_
            have q4 : ∀ H', Same H H' → Q (.bl (okBl (okI p n lv) b)) H' := q3
            have tyb := Dd.kind hb
            have lb : lx b ≤ 1000 := Nat.le_trans (lx_tup (ds := [.str "loop", d1, b]) (by simp)) hl
            refine ⟨_, rfl, a, _, 2, vb, rfl, rfl, sq1, rfl, ?_⟩
            cases hb with
            | int i => exact ⟨_, _, _, _, false, rfl, .ty _, (show TyX K _ _ (.type "int") from tyb), kit_ty (by decide +kernel), _, rfl, iteF (q4 _ s1)⟩
            | bl i => exact ⟨_, _, _, _, false, rfl, .ty _, (show TyX K _ _ (.type "bool") from tyb), kit_ty (by decide +kernel), _, rfl, iteF (q4 _ s1)⟩
            | non => exact ⟨_, _, _, _, false, rfl, .ty _, (show TyX K _ _ (.type "NoneType") from tyb), kit_ty (by decide +kernel), _, rfl, iteF (q4 _ s1)⟩
            | str i => exact ⟨_, _, _, _, false, rfl, .ty _, (show TyX K _ _ (.type "str") from tyb), kit_ty (by decide +kernel), _, rfl, iteF (q4 _ s1)⟩
            | lst _ _ => exact ⟨_, _, _, _, false, rfl, .ty _, (show TyX K _ _ (.type "list") from tyb), kit_ty (by decide +kernel), _, rfl, iteF (q4 _ s1)⟩
            | dct _ _ _ => exact ⟨_, _, _, _, false, rfl, .ty _, (show TyX K _ _ (.type "dict") from tyb), kit_ty (by decide +kernel), _, rfl, iteF (q4 _ s1)⟩
            | @tup c ys bs sqb rb =>
              refine ⟨_, _, _, _, true, rfl, .ty _, (show TyX K _ _ (.type "tuple") from tyb), kit_ty (by decide +kernel), _, rfl, iteT ?_⟩
              refine ⟨_, rfl, a, _, 2, .ref c, rfl, rfl, sq1, rfl, c, rfl, ⟨_, sqb⟩, fun D nD => ?_⟩
              have yl := rb.length
              have blen : bs.length ≤ 1000 := Nat.le_trans (lx_len bs) lb
              refine lc_tup (xs := ys) (fun i H' => H' D = some (.lst (((bs.take i).map (okI p n lv)).map V.bl)) ∧ Same H1 H') ⟨upd_same, same_new nD⟩ (fun i H' _ h => (Kt.same h.2).sq sqb) ?_ ?_
              · rintro i x H2 hx ⟨e1, e2⟩
                obtain ⟨d, hd, dd⟩ := rb.get hx
                refine ⟨rfl, _, rfl, _, rfl, _, rfl, _, rfl, _, _, rfl, rfl, p, n, x, d, ?_, dd.same e2, Nat.le_trans (lx_tup (List.mem_of_getElem? hd)) lb, fun H3 s3 => ⟨_, s3 _ _ e1, ?_, ?_, fun b o ho => ?_⟩⟩
                · show [V.int p, V.int n, x, V.int (((lv + 1 : Nat) : Int) - 1)] = _
                  rw [show ((lv + 1 : Nat) : Int) - 1 = (lv : Int) by omega]
                · rw [List.length_map, List.length_map, List.length_take, sizeLine_eq]
                  omega
                · rw [upd_same, take_snoc _ hd, List.map_append]
                  rfl
                · rw [upd_ne (ne_of_none ho nD)]
                  exact s3 _ _ (e2 _ _ ho)
              rintro H2 ⟨e1, e2⟩
              rw [yl, List.take_length] at e1
              refine ⟨D, _, rfl, SqL.of e1, ?_⟩
              rw [all_map]
              exact q4 H2 (s1.trans e2)
          · rw [Bool.eq_false_iff.mpr c2] at q3 ⊢
            exact iteT (q3 H1 s1)
    · refine iteN (fun e => c (V.str.inj e)) ?_
      rw [if_neg c] at q'
      have q2 : ∀ H', Same H H' → Q (.bl (decide (knd z ≠ "") && kndOk p n (knd z) (d1 :: ds1))) H' := fun H' s => by
        have := q' H' s
        have e := knd_shape p n z (d1 :: ds1)
        exact e ▸ this
      refine ⟨_, rfl, kd, rfl, .inl ⟨_, .inl k1⟩, _, rfl, a, _, 0, .str z, rfl, rfl, sq1, at0, _, DGet.k (k := Sum.inr z) k1, ?_⟩
      rw [kv7_get]
      refine ⟨_, rfl, rfl, _, rfl, ?_⟩
      by_cases ke : knd z = ""
      · refine iteP (by rw [ke]) ?_
        have := q2 H1 s1
        rw [decide_eq_false (fun h => h ke)] at this
        exact this
      refine iteN (fun e => ke (V.str.inj e)) ?_
      have q3 : ∀ H', Same H H' → Q (.bl (kndOk p n (knd z) (d1 :: ds1))) H' := fun H' s => by
        have := q2 H' s
        rw [decide_eq_true ke, Bool.true_and] at this
        exact this
      obtain ⟨asc, k3, sgc⟩ := knd_asc z
      refine ⟨_, rfl, a, _, rfl, .inr sq1, _, rfl, knd z, rfl, Nat.le_trans k3 (by rw [sizeLine_eq]; decide), 1, _, rfl, rfl, rfl, _, rfl, ?_⟩
      show if (!decide (V.int (((V.str z :: vs0).length : Nat) : Int) = V.int (1 + ((knd z).length : Int)))) = true then _ else _
      rw [show (1 : Int) + ((knd z).length : Int) = ((1 + (knd z).length : Nat) : Int) by omega, decV, List.length_cons, xl1]
      by_cases lk : (d1 :: ds1).length = (knd z).length
      · rw [decide_eq_true (by omega)]
        refine iteF ?_
        -- each part
        refine ⟨_, rfl, _, rfl, 1, rfl, ?_⟩
        refine no_part ?_
        refine any_cut (ys := vs0) sq1 (cut_tail _ _) fun a2 H2 s2 sq2 => ?_
        have s12 := s1.trans s2
        have r2 := dds_same s2 r1
        refine ⟨knd z, a2, vs0, rfl, asc, sq2, ?_⟩
        have sl : (sgn (knd z)).length = (d1 :: ds1).length := by rw [sgn_len, lk]; rfl
        have mn : min (sgn (knd z)).length vs0.length = (d1 :: ds1).length := by rw [sl, xl1, Nat.min_self]
        have csl : (knd z).cps.toList.length = (d1 :: ds1).length := by rw [lk, Array.length_toList]; rfl
        refine for_it (walk_F (G := fun H => True ∧ SqT K H a2 vs0) (xs := sgn (knd z)) (ys := vs0)) (fun i σ H' => ∃ y6 y7 y8 y9, σ = [some (.int p), some (.int n), some (.ref a), some (.int (lv : Int)), some (.ref kd), some (.str (knd z)), y6, y7, y8, y9, none] ∧ Same H2 H' ∧ chk p n ((knd z).cps.toList.take i) ((d1 :: ds1).take i) = true) ⟨none, none, none, none, rfl, Same.refl _, by rw [List.take_zero, List.take_zero]; rfl⟩ (fun i σ H' _ ⟨_, _, _, _, _, s, _⟩ => ⟨trivial, (Kt.same s).sq sq2⟩) ?_ ?_
        · rintro i x σ H3 H4 hi ⟨y6, y7, y8, y9, rfl, s3, ck⟩ ⟨T, u1, u2, rfl, nT, rfl, hu1, hu2⟩
          have sT := same_new (o := .tup [u1, u2]) nT
          rw [mn] at hi
          have hci : i < (knd z).cps.toList.length := by omega
          obtain ⟨ch, ech⟩ : ∃ ch, (knd z).cps.toList[i]? = some ch := ⟨_, List.getElem?_eq_getElem hci⟩
          have hu1 : (sgn (knd z))[i]? = some u1 := hu1
          have eu : u1 = .str ⟨#[ch]⟩ := by
            unfold sgn at hu1
            rw [List.getElem?_map, ech] at hu1
            cases hu1
            rfl
          subst eu
          obtain ⟨dp, hdp, ddp⟩ := r2.get (i := i) (v := u2) hu2
          refine ⟨T, _, rfl, SqT.of upd_same, rfl, _, _, rfl, _, _, rfl, rfl, ?_⟩
          -- the bounds
          refine fun bd nbd => ⟨_, rfl, n, 1, rfl, rfl, (by show 2 ≤ sizeLine; decide), fun t1 nt1 => ⟨_, rfl, p, 1, rfl, rfl, (by show 2 ≤ sizeLine; decide), fun t2 nt2 => ⟨_, rfl, p, 1, rfl, rfl, (by show 2 ≤ sizeLine; decide), fun t3 nt3 => ?_⟩⟩⟩
          have sb := same_new (o := .dK []) nbd
          have st1 := same_new (o := .tup [V.int 0, V.int (n - 1)]) nt1
          have st2 := same_new (o := .tup [V.int 0, V.int (p - 1)]) nt2
          have st3 := same_new (o := .tup [V.int 1, V.int (p - 1)]) nt3
          have sAll := ((sT.trans sb).trans st1).trans (st2.trans st3)
          refine ⟨(st1.trans (st2.trans st3)) _ _ upd_same, [(Sum.inr "r", .ref t1), (Sum.inr "c", .ref t2), (Sum.inr "e", .ref t3)], rfl, (by show 3 ≤ 15; decide), ?_⟩
          obtain ⟨H5, hH5⟩ : ∃ H5, H5 = upd (upd (upd (upd (upd (upd H3 T (.tup [V.str ⟨#[ch]⟩, u2])) bd (.dK [])) t1 (.tup [V.int 0, V.int (n - 1)])) t2 (.tup [V.int 0, V.int (p - 1)])) t3 (.tup [V.int 1, V.int (p - 1)])) bd (.dK (mergeK [] [(Sum.inr "r", .ref t1), (Sum.inr "c", .ref t2), (Sum.inr "e", .ref t3)])) := ⟨_, rfl⟩
          have nb : ∀ {y : Addr} {o : HO}, H3 y = some o → y ≠ bd := fun {y o} e => ne_of_none (sT _ _ e) nbd
          have s35 : Same H3 H5 := fun y o e => by
            rw [hH5, upd_ne (nb e)]
            exact sAll _ _ e
          have g5 : H5 bd = some (.dK (mergeK [] [(Sum.inr "r", .ref t1), (Sum.inr "c", .ref t2), (Sum.inr "e", .ref t3)])) := by rw [hH5]; exact upd_same
          have n1 : t1 ≠ bd := (ne_of_none (upd_same (a := bd) (o := .dK [])) nt1).symm
          have n2 : t2 ≠ bd := (ne_of_none (st1 _ _ (upd_same (a := bd) (o := .dK []))) nt2).symm
          have n3 : t3 ≠ bd := (ne_of_none (st2 _ _ (st1 _ _ (upd_same (a := bd) (o := .dK [])))) nt3).symm
          have v1 : H5 t1 = some (.tup [V.int 0, V.int (n - 1)]) := by
            rw [hH5, upd_ne n1]
            exact (st2.trans st3) _ _ upd_same
          have v2 : H5 t2 = some (.tup [V.int 0, V.int (p - 1)]) := by
            rw [hH5, upd_ne n2]
            exact st3 _ _ upd_same
          have v3 : H5 t3 = some (.tup [V.int 1, V.int (p - 1)]) := by
            rw [hH5, upd_ne n3]
            exact upd_same
          obtain ⟨tb, gb, vb⟩ : ∃ tb, valV (mergeK [] [(Sum.inr "r", .ref t1), (Sum.inr "c", .ref t2), (Sum.inr "e", .ref t3)]) (Sum.inr (⟨#[ch]⟩ : Str)) = some (.ref tb) ∧ H5 tb = some (.tup [V.int (bdS p n ch).1, V.int (bdS p n ch).2]) := by
            rcases sgc ch (List.mem_of_getElem? ech) with rfl | rfl | rfl
            · exact ⟨t1, rfl, v1⟩
            · exact ⟨t2, rfl, v2⟩
            · exact ⟨t3, rfl, v3⟩
          rw [← hH5]
          refine ⟨_, rfl, bd, .ref tb, rfl, by rw [← gb]; exact DGet.k (k := Sum.inr (⟨#[ch]⟩ : Str)) g5, ?_⟩
          refine ⟨tb, _, rfl, SqT.of vb, rfl, _, _, rfl, _, _, rfl, rfl, ?_⟩
          refine ⟨_, rfl, _, rfl, _, rfl, u2, dp, _, _, rfl, ddp.same (s3.trans s35), _, rfl, ?_⟩
          have cs := chk_snoc (p := p) (n := n) ech hdp ck
          by_cases cb : isBd (bdS p n ch).1 (bdS p n ch).2 dp = true
          · rw [cb] at cs ⊢
            exact iteF ⟨_, _, _, _, rfl, s3.trans s35, cs⟩
          · rw [Bool.eq_false_iff.mpr cb] at cs ⊢
            refine iteT ?_
            have := q3 H5 (s12.trans (s3.trans s35))
            unfold kndOk at this
            rw [chk_false cs, Bool.false_and, Bool.and_false] at this
            exact this
        · rintro σ H3 ⟨y6, y7, y8, y9, rfl, s3, ck⟩
          rw [mn] at ck
          have tk1 : (knd z).cps.toList.take (d1 :: ds1).length = (knd z).cps.toList := List.take_of_length_le (by omega)
          rw [tk1, List.take_length] at ck
          have s13 := s12.trans s3
          have q4 : ∀ H', Same H H' → Q (.bl (twoD (knd z) (d1 :: ds1))) H' := fun H' s => by
            have := q3 H' s
            unfold kndOk at this
            rw [decide_eq_true lk, ck, Bool.true_and, Bool.true_and] at this
            exact this
          unfold twoD at q4
          refine ⟨_, rfl, 2, rfl, knd z, rfl, ?_, rfl, _, rfl, ?_⟩
          · exact Nat.le_trans k3 (by rw [sizeLine_eq]; decide)
          by_cases c2 : cutS (knd z) none (some 2) = "rr"
          · rw [decide_eq_false (fun h => h c2)] at q4
            refine ifNN (by rw [c2]) ?_
            -- then both are registers
            have l2 : 2 ≤ (d1 :: ds1).length := by
              rw [lk]
              rcases knd_cases z with ⟨_, kk⟩ | ⟨_, kk⟩ | ⟨_, kk⟩ | ⟨_, kk⟩ | ⟨_, kk⟩
              · exact absurd kk ke
              · rw [kk]; decide
              · rw [kk]; decide
              · rw [kk]; decide
              · rw [kk] at c2
                exact absurd c2 (by decide)
            have c3 : ∀ c ∈ (knd z).cps.toList.take 2, c = 114 := by
              rcases knd_cases z with ⟨_, kk⟩ | ⟨_, kk⟩ | ⟨_, kk⟩ | ⟨_, kk⟩ | ⟨_, kk⟩
              · exact absurd kk ke
              · rw [kk] at c2
                exact absurd c2 (by decide)
              · rw [kk]; decide +kernel
              · rw [kk]; decide +kernel
              · rw [kk] at c2
                exact absurd c2 (by decide)
            match ds1, l2, ck, q4, r1, lk, csl with
            | d2 :: ds2, _, ck, q4, r1, lk, csl =>
              obtain ⟨c1, cr, ec⟩ : ∃ c1 cr, (knd z).cps.toList = c1 :: cr := by
                cases h : (knd z).cps.toList with
                | nil => rw [h] at csl; cases csl
                | cons a b => exact ⟨a, b, rfl⟩
              obtain ⟨c2', cr', ec'⟩ : ∃ c1 cr', cr = c1 :: cr' := by
                cases h : cr with
                | nil => rw [ec, h] at csl; cases csl
                | cons a b => exact ⟨a, b, rfl⟩
              rw [ec, ec', chk, chk, Bool.and_eq_true, Bool.and_eq_true] at ck
              obtain ⟨i1, rfl, _⟩ := isBd_int ck.1
              obtain ⟨i2, rfl, _⟩ := isBd_int ck.2.1
              cases r1 with
              | @cons w1 ws _ _ hw1 r1 =>
              cases r1 with
              | @cons w2 ws2 _ _ hw2 r1 =>
              cases hw1
              cases hw2
              have sq3 := (Kt.same (s2.trans s3)).sq sq1
              refine ⟨_, rfl, a, _, 1, .int i1, rfl, rfl, sq3, atI_nat (j := 1) rfl, _, rfl, a, _, 2, .int i2, rfl, rfl, sq3, atI_nat (j := 2) rfl, rfl, ?_⟩
              have := q4 H3 s13
              have e : (!decide (V.int i1 = V.int i2)) = !sameI (.int i1) (.int i2) := by
                show _ = !decide (i1 = i2)
                by_cases h : i1 = i2
                · rw [decide_eq_true h, decide_eq_true (congrArg V.int h)]
                · rw [decide_eq_false h, decide_eq_false fun z => h (V.int.inj z)]
              rw [e]
              exact this
            | [], l2, _, _, _, _, _ => simp at l2
          · rw [decide_eq_true c2, Bool.true_or] at q4
            exact iteNN (fun e => c2 (V.str.inj e)) (q4 H3 s13)
      · rw [decide_eq_false (by omega)]
        refine iteT ?_
        have := q3 H1 s1
        unfold kndOk at this
        rw [decide_eq_false lk, Bool.false_and] at this
        exact this
theorem ok_lisitem (M : Bl mg) (m_str : mg "str" = none) (F : At K mg "_law_is_item" sLisitem ["_law_q", "_law_wide", "_law_thing", "_law_deep"]) (h1 : Has P w K mg base 1 "_law_int" ["_law_thing", "_law_low", "_law_high"] (spBtD K)) : ∀ lv : Nat, Has P w K mg base (lv + 2) "_law_is_item" ["_law_q", "_law_wide", "_law_thing", "_law_deep"] (spLI K lv)
  | 0 => ok_item1 (lv := 0) M m_str F h1 (Has.none F fun _ _ _ _ h => h)
  | lv + 1 => ok_item1 M m_str F (h1.up (by omega)) (ok_lisitem M m_str F h1 lv)
end
end K05
set_option Elab.async false
set_option pp.maxSteps 500
set_option pp.deepTerms.threshold 8
set_option pp.deepTerms false
set_option linter.all false
set_option maxRecDepth 100000
namespace K05
open PySem PySem.Spec PyProof.Rows L2 Lj
section
variable {P : Program} {w : World} {K : PySem.W.Frag} {mg : Str → Option Value} {base : Heap}
/-! ### the law's own counts -/
def mn1 (z : Str) : Tr → Int
  | .op u _ => if z = "" ∨ z = u then 1 else 0
  | .loop m b => if z = "" then 1 + szs b else m * cnts z b
def mny (z : Str) (b : List Tr) : Int := if z = "" then szs b else cnts z b
theorem mny_sum (z : Str) (b : List Tr) : (b.map (mn1 z)).sum = mny z b := by
  unfold mny
  by_cases c : z = ""
  · rw [if_pos c]
    subst c
    have e : szs b = (b.length : Int) + (b.map Tr.inn).sum := by
      rw [szs, inns_map]
    rw [e]
    induction b with
    | nil => rfl
    | cons t r ih =>
      have ih := ih (by rw [szs, inns_map])
      rw [List.map_cons, List.sum_cons, ih, List.map_cons, List.sum_cons, List.length_cons]
      have : mn1 "" t = 1 + t.inn := by
        cases t with
        | op u as =>
          rw [mn1, Tr.inn, if_pos (.inl rfl)]
          rfl
        | loop m b => rw [mn1, Tr.inn, if_pos rfl, szs]
      rw [this]
      omega
  · rw [if_neg c, cnts_map]
    congr 1
    apply List.map_congr_left
    intro t _
    cases t with
    | op u as =>
      rw [mn1, Tr.cnt]
      by_cases e : u = z
      · rw [if_pos (.inr e.symm), if_pos e]
      · rw [if_neg (fun h => h.elim c fun h => e h.symm), if_neg e]
    | loop m b => rw [mn1, Tr.cnt, if_neg c]
def spMI (K : PySem.W.Frag) (ok : List Tr → Prop) : Sp := fun vs H Q _ => ∃ v b z, vs = [v, .str z] ∧ BodyAt K H b v ∧ ok b ∧ ∀ H', Same H H' → Q (.int (mny z b)) H'
theorem ok_many1 (M : Bl mg) (F : At K mg "_law_many" sMany ["_law_program", "_law_word"]) {n k : Nat} (h : Has P w K mg base k "_law_many" ["_law_program", "_law_word"] (spMI K (okB n))) : Has P w K mg base (k + 1) "_law_many" ["_law_program", "_law_word"] (spMI K (okB (n + 1))) := by
  obtain ⟨fS, fdS, cMany⟩ := h
  refine Has.by F scMany (fun vs H Q E h => ?_) (fun f cdv A out s H vs Q E hg hr h => ?_)
  · obtain ⟨v, t, z, rfl, _⟩ := h
    rfl
  obtain ⟨v, b, z, rfl, ⟨c, us, rfl, sq, r⟩, ok, q⟩ := h
  refine ⟨_, (pss_cons (ps_set (i := 2) scMany.nd rfl (.inl rfl) pe_int)
  (pss_cons (ps_for PassesOwn.never rfl (pi_tup (pv 0)) (pg_name (i := 3) scMany.nd rfl (.inl rfl))
    (pss_one (ps_if (pt_cmpR op_eq (pe_ix ix_tup (pv 3) pe_int (fun _ _ => rfl)) pe_str (nomark _))
    (pss_cons (ps_set (i := 4) scMany.nd rfl (.inl rfl) (pe_cal cMany hg hr (by rfl) (pa_cons (pe_ix ix_tup (pv 3) pe_int (fun _ _ => rfl)) (pa_cons (pv 1) pa_nil))))
  (pss_one (ps_set (i := 2) scMany.nd rfl (.inl rfl) (pe_op op_add (pv 2) (pe_ifExp (pt_cmpR op_eq (pv 1) pe_str (nomark _)) (pe_op op_add pe_int (pv 4)) (pe_op op_mul (pe_ix ix_tup (pv 3) pe_int (fun _ _ => rfl)) (pv 4)))))))
    (pss_one (ps_set (i := 2) scMany.nd rfl (.inl rfl) (pe_op op_add (pv 2) (pe_callTy call_int1 (by rfl) M.int_ (by decide +kernel) (pa_cons (pe_cmpR op_in_seq (pv 1) (pe_tup (pa_cons pe_str (pa_cons (pe_ix ix_tup (pv 3) pe_int (fun _ _ => rfl)) pa_nil))) (by rfl)) pa_nil))))))))
  (pss_one (ps_ret (pv 2))))), ?_⟩
  refine ⟨_, rfl, c, rfl, ⟨_, sq⟩, ?_⟩
  refine for_tup (xs := us) (fun i σ H' => ∃ y y2, σ = [some (.ref c), some (.str z), some (.int ((b.take i).map (mn1 z)).sum), y, y2] ∧ Same H H') ⟨none, none, rfl, Same.refl H⟩ (fun i σ H' _ h => ?_) ?_ ?_
  · obtain ⟨_, _, _, h⟩ := h
    exact (Kt.same h).sq sq
  · rintro i x σ H' hx ⟨y, y2, rfl, e2⟩
    obtain ⟨t, ht, hT⟩ := r.get hx
    have hT := TrAt.kt (Kt.same e2) t x hT
    rw [sum_next ht]
    cases t with
    | op u as =>
      rw [TrAt] at hT
      obtain ⟨a, rfl, sq3⟩ := hT
      refine ⟨_, rfl, a, _, 0, .str u, rfl, rfl, sq3, at0, rfl, _, rfl, iteN (fun e => okB_op ok ht (V.str.inj e)) ?_⟩
      refine ⟨_, rfl, _, rfl, _, rfl, a, _, 0, .str u, rfl, rfl, sq3, at0, (by show 2 ≤ sizeLine; decide), fun t1 nt1 => ?_⟩
      refine ⟨t1, _, rfl, .inr (SqT.of upd_same), rfl, rfl, .inr ⟨_, rfl, _, _, rfl, rfl, some (.ref a), y2, ?_, e2.trans (same_new nt1)⟩⟩
      have e : (if inV (V.str z) [V.str "", V.str u] = true then (1 : Int) else 0) = mn1 z (.op u as) := by
        rw [mn1]
        by_cases h : z = "" ∨ z = u
        · rw [if_pos h, if_pos (inV2.mpr h)]
        · rw [if_neg h, if_neg fun g => h (inV2.mp g)]
      rw [← e]
      rfl
    | loop m b' =>
      rw [TrAt] at hT
      obtain ⟨a, d, ws, rfl, sq3, sq4, r2⟩ := hT
      obtain ⟨c0, c1, ok2⟩ := okB_loop ok ht
      refine ⟨_, rfl, a, _, 0, .str "loop", rfl, rfl, sq3, rfl, rfl, _, rfl, iteP rfl ?_⟩
      refine ⟨_, rfl, a, _, 2, .ref d, rfl, rfl, sq3, rfl, _, rfl, _, b', z, rfl, ⟨d, ws, rfl, sq4, r2⟩, ok2, fun H2 sm => ?_⟩
      have sq5 := (Kt.same sm).sq sq3
      refine ⟨_, rfl, _, rfl, rfl, _, rfl, ite2 (fun i1 => ?_) (fun i1 => ?_)⟩
      · have ez : z = "" := V.str.inj (of_decide_eq_true i1)
        refine ⟨_, rfl, _, _, rfl, rfl, _, _, rfl, rfl, some (.ref a), some (.int (mny z b')), ?_, e2.trans sm⟩
        rw [mn1, if_pos ez]
        unfold mny
        rw [if_pos ez]
        rfl
      · have ez : z ≠ "" := fun e => i1 (decide_eq_true (congrArg V.str e))
        refine ⟨_, rfl, a, _, 1, .int m, rfl, rfl, sq5, rfl, _, rfl, m, _, rfl, rfl, .inl ⟨by omega, by omega⟩, _, _, rfl, rfl, some (.ref a), some (.int (mny z b')), ?_, e2.trans sm⟩
        rw [mn1, if_neg ez]
        unfold mny
        rw [if_neg ez]
        rfl
  · rintro σ H' ⟨y, y2, rfl, e2⟩
    rw [r.length, take_all, mny_sum]
    exact ⟨_, rfl, q H' e2⟩
theorem ok_many (M : Bl mg) (F : At K mg "_law_many" sMany ["_law_program", "_law_word"]) : ∀ n, Has P w K mg base n "_law_many" ["_law_program", "_law_word"] (spMI K (okB n))
  | 0 => Has.none F fun vs H Q E ⟨_, _, _, _, _, h, _⟩ => h
  | n + 1 => ok_many1 M F (ok_many M F n)
theorem ok_due (M : Bl mg) (F : At K mg "_law_due" sDue ["_law_q", "_law_wide", "_law_thing"]) {k : Nat} (h1 : Has P w K mg base k "_law_is_item" ["_law_q", "_law_wide", "_law_thing", "_law_deep"] (spLI K 4)) (h2 : Has P w K mg base k "_law_many" ["_law_program", "_law_word"] (spMI K (okB 5))) :
    Has P w K mg base (k + 1) "_law_due" ["_law_q", "_law_wide", "_law_thing"] (spIP K) := by
  obtain ⟨_, _, cLisitem⟩ := h1
  obtain ⟨_, _, cMany⟩ := h2
  refine Has.by F scDue (fun vs H Q E h => ?_) (fun f cdv A out s H vs Q E hg hr h => ?_)
  · obtain ⟨_, _, _, _, _, rfl, _⟩ := h
    rfl
  obtain ⟨p, n, v, d, b, rfl, dd, hl, hb, q⟩ := h
  refine ⟨_, (pss_cons (ps_if (PW.pt (pw_or (pt_not (pt_val (pe_callB call_isi (by rfl) M.isinstance_ (by decide +kernel) (pa_cons (pv 2) (pa_cons (pe_bltn (v := .ty "tuple") (by rfl) M.tuple_ (by decide +kernel) rfl) pa_nil))))) (pw_or1 (pt_not (pt_val (pe_callB (cr_all rfl) (by rfl) M.all_ (by decide +kernel) (pa_cons (pe_lc (own := [("_law_item_here", 3)]) (g := gName 3) (by rfl) scDue.nd (pi_tup (pv 2)) (blkOk_by (own := [("_law_item_here", 3)]) (N := ["_law_q", "_law_wide", "_law_thing", "_law_item_here"]) (sc := defScope sDue) (by decide +kernel)) (fun _ _ _ _ _ => (pg_name (i := 3) scDue.nd rfl (.inl rfl))) (fun _ _ _ _ _ => pts_nil) (fun _ _ _ _ _ => (pe_cal cLisitem hg hr (by rfl) (pa_cons (pv 0) (pa_cons (pv 1) (pa_cons (pv 3) (pa_cons pe_int pa_nil))))))) pa_nil)))))))
    (pss_one (ps_ret pe_bl))
    pss_nil)
  (pss_one (ps_ret (pe_and (pe_cmpR op_le (pe_cal cMany hg hr (by rfl) (pa_cons (pv 2) (pa_cons pe_str pa_nil))) pe_int (nomark _)) (pe_and (pe_cmpR op_le (pe_cal cMany hg hr (by rfl) (pa_cons (pv 2) (pa_cons pe_str pa_nil))) pe_int (nomark _)) (pe_one (pe_cmpR op_le (pe_cal cMany hg hr (by rfl) (pa_cons (pv 2) (pa_cons pe_str pa_nil))) pe_int (nomark _)))))))), ?_⟩
  have ty := Dd.kind dd
  unfold okP at q
  have dd0 := dd
  cases dd with
  | int i => exact ⟨_, rfl, _, _, _, _, false, rfl, .ty _, (show TyX K H _ (.type "int") from ty), kit_ty (by decide +kernel), _, rfl, iteT (q H (Same.refl H))⟩
  | bl i => exact ⟨_, rfl, _, _, _, _, false, rfl, .ty _, (show TyX K H _ (.type "bool") from ty), kit_ty (by decide +kernel), _, rfl, iteT (q H (Same.refl H))⟩
  | non => exact ⟨_, rfl, _, _, _, _, false, rfl, .ty _, (show TyX K H _ (.type "NoneType") from ty), kit_ty (by decide +kernel), _, rfl, iteT (q H (Same.refl H))⟩
  | str i => exact ⟨_, rfl, _, _, _, _, false, rfl, .ty _, (show TyX K H _ (.type "str") from ty), kit_ty (by decide +kernel), _, rfl, iteT (q H (Same.refl H))⟩
  | lst a r => exact ⟨_, rfl, _, _, _, _, false, rfl, .ty _, (show TyX K H _ (.type "list") from ty), kit_ty (by decide +kernel), _, rfl, iteT (q H (Same.refl H))⟩
  | dct a e r => exact ⟨_, rfl, _, _, _, _, false, rfl, .ty _, (show TyX K H _ (.type "dict") from ty), kit_ty (by decide +kernel), _, rfl, iteT (q H (Same.refl H))⟩
  | @tup c ys bs sqb rb =>
    refine ⟨_, rfl, _, _, _, _, true, rfl, .ty _, (show TyX K H _ (.type "tuple") from ty), kit_ty (by decide +kernel), _, rfl, iteF ?_⟩
    refine ⟨_, rfl, c, rfl, ⟨_, sqb⟩, fun D nD => ?_⟩
    have yl := rb.length
    have blen : bs.length ≤ 1000 := Nat.le_trans (lx_len bs) hl
    refine lc_tup (xs := ys) (fun i H' => H' D = some (.lst (((bs.take i).map (okI p n 4)).map V.bl)) ∧ Same H H') ⟨upd_same, same_new nD⟩ (fun i H' _ h => (Kt.same h.2).sq sqb) ?_ ?_
    · rintro i x H2 hx ⟨e1, e2⟩
      obtain ⟨d, hd, dd⟩ := rb.get hx
      refine ⟨rfl, _, rfl, _, rfl, _, rfl, p, n, x, d, rfl, dd.same e2, Nat.le_trans (lx_tup (List.mem_of_getElem? hd)) hl, fun H3 s3 => ⟨_, s3 _ _ e1, ?_, ?_, fun b o ho => ?_⟩⟩
      · rw [List.length_map, List.length_map, List.length_take, sizeLine_eq]
        omega
      · rw [upd_same, take_snoc _ hd, List.map_append]
        rfl
      · rw [upd_ne (ne_of_none ho nD)]
        exact s3 _ _ (e2 _ _ ho)
    rintro H2 ⟨e1, e2⟩
    rw [yl, List.take_length] at e1
    refine ⟨D, _, rfl, SqL.of e1, _, rfl, ?_⟩
    rw [all_map]
    have eo : okBl (okI p n 4) (.tuple bs) = bs.all (okI p n 4) := rfl
    rw [eo] at q hb
    by_cases cc : bs.all (okI p n 4) = true
    · obtain ⟨ba, ok⟩ := hb cc
      rw [cc] at q ⊢
      refine iteF ⟨_, rfl, .ref c, b, "", rfl, ba.kt (Kt.same e2), ok, fun H3 s3 => ?_⟩
      have s13 := e2.trans s3
      have z0 : mny "" b = szs b := rfl
      have z1 : mny "read" b = cnts "read" b := rfl
      have z2 : mny "write" b = cnts "write" b := rfl
      refine ⟨_, _, rfl, rfl, _, rfl, ?_⟩
      rw [z0]
      by_cases c2 : szs b ≤ 200
      · rw [decide_eq_true c2] at q ⊢
        refine iteT ⟨_, rfl, .ref c, b, "read", rfl, ba.kt (Kt.same s13), ok, fun H4 s4 => ⟨_, _, rfl, rfl, _, rfl, ?_⟩⟩
        have s14 := s13.trans s4
        rw [z1]
        by_cases c3 : cnts "read" b ≤ 2000
        · rw [decide_eq_true c3] at q ⊢
          refine iteT ⟨_, rfl, .ref c, b, "write", rfl, ba.kt (Kt.same s14), ok, fun H5 s5 => ⟨_, _, rfl, rfl, ?_⟩⟩
          rw [z2]
          exact q H5 (s14.trans s5)
        · rw [decide_eq_false c3] at q ⊢
          exact iteF (q H4 s14)
      · rw [decide_eq_false c2] at q ⊢
        exact iteF (q H3 s13)
    · rw [Bool.eq_false_iff.mpr cc] at q ⊢
      exact iteT (q H2 e2)
end
end K05
set_option Elab.async false
set_option pp.maxSteps 500
set_option pp.deepTerms.threshold 8
set_option pp.deepTerms false
set_option linter.all false
set_option maxRecDepth 100000
namespace K05
open PySem PySem.Spec PyProof.Rows L2 Lj
section
variable {P : Program} {w : World} {K : PySem.W.Frag} {mg : Str → Option Value} {base : Heap}
/-! ### values of any kind -/
def Odd (d : PyData) : Prop := gd d ∧ bt d ≤ 20000 ∧ d.depth ≤ 2 ∧ lx d ≤ 4
theorem odd_leaf {d : PyData} (h : Leaf d) (n : ∀ ds, d ≠ .list ds ∧ d ≠ .tuple ds) : Odd d := by
  obtain ⟨a, b, c, e⟩ := id h
  cases d with
  | list ds => exact absurd rfl (n ds).1
  | tuple ds => exact absurd rfl (n ds).2
  | dict kv => rw [PyData.depth] at c; omega
  | none => exact ⟨by rw [gd]; trivial, by rw [bt]; decide, by omega, by simp [lx]⟩
  | bool x => exact ⟨by rw [gd]; trivial, by rw [bt]; decide, by omega, by simp [lx]⟩
  | int i => exact ⟨by rw [gd]; exact h, by rw [bt]; decide, by omega, by simp [lx]⟩
  | str x => exact ⟨by rw [gd]; exact h, by rw [bt]; decide, by omega, by simp [lx]⟩
theorem leaf_i {i : Int} (h : i.natAbs < 2 ^ 1000) : Leaf (.int i) := leaf_int (log_of h (by decide) (by decide))
theorem odd_i {i : Int} (h : i.natAbs < 2 ^ 1000) : Odd (.int i) := odd_leaf (leaf_i h) fun ds => ⟨fun e => PyData.noConfusion e, fun e => PyData.noConfusion e⟩
def oWords : List Str := ["", "set", "loop", "x", "read", "write", "copy"]
theorem leaf_w {x : Str} (h : x ∈ oWords) : Leaf (.str x) := by
  have z : (oWords.all fun x => (PyData.str x).showable && decide ((PyData.str x).shown.length ≤ 1921)) = true := by decide +kernel
  have y := List.all_eq_true.mp z x h
  rw [Bool.and_eq_true] at y
  exact ⟨y.1, by rw [PyData.hasDict], by rw [PyData.depth], of_decide_eq_true y.2⟩
theorem odd_s {x : Str} (h : x ∈ oWords) : Odd (.str x) := odd_leaf (leaf_w h) fun ds => ⟨fun e => PyData.noConfusion e, fun e => PyData.noConfusion e⟩
theorem odd_e : Odd (.tuple []) ∧ Odd (.list []) ∧ Odd (.dict []) := by
  refine ⟨⟨?_, ?_, ?_, ?_⟩, ⟨?_, ?_, ?_, ?_⟩, ⟨?_, ?_, ?_, ?_⟩⟩ <;> simp [gd, gds, bt, bts, PyData.depth, PyData.depthAll, PyData.depthKv, lx, lxs]
theorem odd_op {x : Str} (h : x ∈ oWords) : Odd (.tuple [.str x, .int 0]) ∧ Odd (.tuple [.str x, .int 0, .int 0]) ∧ Odd (.tuple [.str x]) ∧ Odd (.tuple [.tuple [.str x, .int 0, .int 0]]) ∧ Odd (.tuple [.str x, .int 2, .tuple []]) := by
  have a := leaf_w h
  have b : Leaf (.int 0) := leaf_i (by decide)
  have c : Leaf (.int 2) := leaf_i (by decide)
  refine ⟨⟨?_, ?_, ?_, ?_⟩, ⟨?_, ?_, ?_, ?_⟩, ⟨?_, ?_, ?_, ?_⟩, ⟨?_, ?_, ?_, ?_⟩, ⟨?_, ?_, ?_, ?_⟩⟩ <;> simp [gd, gds, bt, bts, PyData.depth, PyData.depthAll, PyData.depthKv, lx, lxs, a, b, c]
def odds (q n : Int) : List PyData := [.none, .bool true, .bool false, .int (-1), .int 0, .int 1, .int q, .int n, .int (10 ^ 18 + 1), .str "", .str "set", .str "loop", .str "x", .tuple [], .list [], .dict [], .tuple [.str "set", .int 0, .int 0]] ++
  [.tuple [.str "read", .int 0], .tuple [.str "loop", .int 2, .tuple []], .tuple [.tuple [.str "set", .int 0, .int 0]], .int (10 ^ 60), .tuple [.str "write"], .tuple [.str "copy", .int 0, .int 0]]
theorem odds_odd {q n : Int} (q0 : 0 ≤ q) (q1 : q ≤ 10007) (n0 : 0 ≤ n) (n1 : n ≤ 8) : ∀ d ∈ odds q n, Odd d := by
  have big : (10007 : Nat) < 2 ^ 1000 := by decide
  intro d m
  simp only [odds, List.cons_append, List.nil_append, List.mem_cons, List.not_mem_nil, or_false] at m
  rcases m with rfl | rfl | rfl | rfl | rfl | rfl | rfl | rfl | rfl | rfl | rfl | rfl | rfl | rfl | rfl | rfl | rfl | rfl | rfl | rfl | rfl | rfl | rfl
  · exact odd_leaf leaf_none fun ds => ⟨fun e => PyData.noConfusion e, fun e => PyData.noConfusion e⟩
  · exact odd_leaf (leaf_bool _) fun ds => ⟨fun e => PyData.noConfusion e, fun e => PyData.noConfusion e⟩
  · exact odd_leaf (leaf_bool _) fun ds => ⟨fun e => PyData.noConfusion e, fun e => PyData.noConfusion e⟩
  · exact odd_i (by decide)
  · exact odd_i (by decide)
  · exact odd_i (by decide)
  · exact odd_i (Nat.lt_of_le_of_lt (by omega) big)
  · exact odd_i (Nat.lt_of_le_of_lt (by omega) big)
  · exact odd_i (by decide)
  · exact odd_s (by decide)
  · exact odd_s (by decide)
  · exact odd_s (by decide)
  · exact odd_s (by decide)
  · exact odd_e.1
  · exact odd_e.2.1
  · exact odd_e.2.2
  · exact (odd_op (by decide)).2.1
  · exact (odd_op (by decide)).1
  · exact (odd_op (by decide)).2.2.2.2
  · exact (odd_op (by decide)).2.2.2.1
  · exact odd_i (by decide)
  · exact (odd_op (by decide)).2.2.1
  · exact (odd_op (by decide)).2.1
theorem dds1 {H : Hp} (v : V) (d : PyData) (h : Dd K H v d) : DdAll K H [v] [d] := .cons h .nil
theorem urn_at {H : Hp} {u : Addr} (h : Urn H u) : ∃ o, H u = some o := by
  obtain ⟨_, _, e, _⟩ := h
  exact ⟨_, e⟩
def spOdd (K : PySem.W.Frag) : Sp := fun vs H Q _ => ∃ (u : Addr) (q n : Int) (B : List Addr), vs = [.ref u, .int q, .int n] ∧ Urn H u ∧ u ∈ B ∧ Held B H ∧ 0 ≤ q ∧ q ≤ 10007 ∧ 0 ≤ n ∧ n ≤ 8 ∧
  ∀ v d H', Urn H' u → But u H H' → Dd K (ban B H') v d → Odd d → Q v H'
theorem ok_odd (M : Bl mg) (F : At K mg "_law_odd" sOdd ["_law_urn_here", "_law_q", "_law_wide"]) {k : Nat} (h : Has P w K mg base k "_law_of" ["_law_urn_here", "_law_items"] (spOf K)) : Has P w K mg base (k + 1) "_law_odd" ["_law_urn_here", "_law_q", "_law_wide"] (spOdd K) := by
  obtain ⟨_, _, cOf⟩ := h
  refine Has.by F scOdd (fun vs H Q E h => ?_) (fun f cdv A out s H vs Q E hg hr h => ?_)
  · obtain ⟨_, _, _, _, rfl, _⟩ := h
    rfl
  obtain ⟨u, q, n, B, rfl, hU, uB, hB, q0, q1, n0, n1, qq⟩ := h
  refine ⟨_, (pss_cons (ps_set (i := 3) scOdd.nd rfl (.inl rfl) (pe_lst (pa_cons pe_non (pa_cons pe_bl (pa_cons pe_bl (pa_cons (pe_un un_neg pe_int) (pa_cons pe_int (pa_cons pe_int (pa_cons (pv 1) (pa_cons (pv 2) (pa_cons (pe_op op_add (pe_op op_pow pe_int pe_int) pe_int) (pa_cons pe_str (pa_cons pe_str (pa_cons pe_str (pa_cons pe_str (pa_cons (pe_tup pa_nil) (pa_cons (pe_lst pa_nil) (pa_cons pe_dnewK (pa_cons (pe_tup (pa_cons pe_str (pa_cons pe_int (pa_cons pe_int pa_nil)))) pa_nil)))))))))))))))))))
  (pss_one (ps_ret (pe_cal cOf hg hr (by rfl) (pa_cons (pv 0) (pa_cons (pe_op op_cat (pv 3) (pe_lst (pa_cons (pe_tup (pa_cons pe_str (pa_cons pe_int pa_nil))) (pa_cons (pe_tup (pa_cons pe_str (pa_cons pe_int (pa_cons (pe_tup pa_nil) pa_nil)))) (pa_cons (pe_tup (pa_cons (pe_tup (pa_cons pe_str (pa_cons pe_int (pa_cons pe_int pa_nil)))) pa_nil)) (pa_cons (pe_op op_pow pe_int pe_int) (pa_cons (pe_tup (pa_cons pe_str pa_nil)) (pa_cons (pe_tup (pa_cons pe_str (pa_cons pe_int (pa_cons pe_int pa_nil)))) pa_nil)))))))) pa_nil)))))), ?_⟩
  refine ⟨1, rfl, _, rfl, _, rfl, 10, 18, rfl, rfl, ⟨by decide, by decide, by decide⟩, _, _, rfl, rfl, Nat.zero_le _, fun t1 nt1 => ?_⟩
  have s1 := same_new (o := .tup []) nt1
  have c1 := ban_new (o := .tup []) hB nt1
  have hB1 := hB.same s1
  refine ⟨Nat.zero_le _, fun l1 nl1 => ?_⟩
  have s2 := same_new (o := .lst []) nl1
  have c2 := ban_new (o := .lst []) hB1 nl1
  have hB2 := hB1.same s2
  refine fun d1 nd1 => ?_
  have s3 := same_new (o := .dK []) nd1
  have c3 := ban_new (o := .dK []) hB2 nd1
  have hB3 := hB2.same s3
  refine ⟨(by show 3 ≤ sizeLine; decide), fun t2 nt2 => ?_⟩
  have s4 := same_new (o := .tup [.str "set", .int 0, .int 0]) nt2
  have c4 := ban_new (o := .tup [.str "set", .int 0, .int 0]) hB3 nt2
  have hB4 := hB3.same s4
  refine ⟨(by show 17 ≤ sizeLine; decide), fun L1 nL1 => ?_⟩
  have s5 := same_new (o := .lst [V.non, .bl true, .bl false, .int (-1), .int 0, .int 1, .int q, .int n, .int (10 ^ 18 + 1), .str "", .str "set", .str "loop", .str "x", .ref t1, .ref l1, .ref d1, .ref t2]) nL1
  have hB5 := hB4.same s5
  refine ⟨_, rfl, _, rfl, (by show 2 ≤ sizeLine; decide), fun t3 nt3 => ?_⟩
  have s6 := same_new (o := .tup [.str "read", .int 0]) nt3
  have c6 := ban_new (o := .tup [.str "read", .int 0]) hB5 nt3
  have hB6 := hB5.same s6
  refine ⟨Nat.zero_le _, fun t4 nt4 => ?_⟩
  have s7 := same_new (o := .tup []) nt4
  have c7 := ban_new (o := .tup []) hB6 nt4
  have hB7 := hB6.same s7
  refine ⟨(by show 3 ≤ sizeLine; decide), fun t5 nt5 => ?_⟩
  have s8 := same_new (o := .tup [.str "loop", .int 2, .ref t4]) nt5
  have c8 := ban_new (o := .tup [.str "loop", .int 2, .ref t4]) hB7 nt5
  have hB8 := hB7.same s8
  refine ⟨(by show 3 ≤ sizeLine; decide), fun t6 nt6 => ?_⟩
  have s9 := same_new (o := .tup [.str "set", .int 0, .int 0]) nt6
  have c9 := ban_new (o := .tup [.str "set", .int 0, .int 0]) hB8 nt6
  have hB9 := hB8.same s9
  refine ⟨(by show 1 ≤ sizeLine; decide), fun t7 nt7 => ?_⟩
  have s10 := same_new (o := .tup [.ref t6]) nt7
  have c10 := ban_new (o := .tup [.ref t6]) hB9 nt7
  have hB10 := hB9.same s10
  refine ⟨10, 60, rfl, rfl, ⟨by decide, by decide, by decide⟩, (by show 1 ≤ sizeLine; decide), fun t8 nt8 => ?_⟩
  have s11 := same_new (o := .tup [.str "write"]) nt8
  have c11 := ban_new (o := .tup [.str "write"]) hB10 nt8
  have hB11 := hB10.same s11
  refine ⟨(by show 3 ≤ sizeLine; decide), fun t9 nt9 => ?_⟩
  have s12 := same_new (o := .tup [.str "copy", .int 0, .int 0]) nt9
  have c12 := ban_new (o := .tup [.str "copy", .int 0, .int 0]) hB11 nt9
  have hB12 := hB11.same s12
  refine ⟨(by show 6 ≤ sizeLine; decide), fun L2 nL2 => ?_⟩
  have s13 := same_new (o := .lst [V.ref t3, .ref t5, .ref t7, .int (10 ^ 60), .ref t8, .ref t9]) nL2
  have hB13 := hB12.same s13
  have s512 := (((s6.trans s7).trans (s8.trans s9)).trans ((s10.trans s11).trans s12))
  have eL1 := (s512.trans s13) L1 _ upd_same
  refine ⟨L1, L2, [V.non, .bl true, .bl false, .int (-1), .int 0, .int 1, .int q, .int n, .int (10 ^ 18 + 1), .str "", .str "set", .str "loop", .str "x", .ref t1, .ref l1, .ref d1, .ref t2], [V.ref t3, .ref t5, .ref t7, .int (10 ^ 60), .ref t8, .ref t9], rfl, rfl, eL1, upd_same, (by show 23 ≤ sizeLine; decide), fun L3 nL3 => ?_⟩
  have s14 := same_new (o := .lst ([V.non, .bl true, .bl false, .int (-1), .int 0, .int 1, .int q, .int n, .int (10 ^ 18 + 1), .str "", .str "set", .str "loop", .str "x", .ref t1, .ref l1, .ref d1, .ref t2] ++ [V.ref t3, .ref t5, .ref t7, .int (10 ^ 60), .ref t8, .ref t9])) nL3
  have s04 := (s1.trans s2).trans (s3.trans s4)
  have s414 := s5.trans (s512.trans (s13.trans s14))
  have s014 := s04.trans s414
  have u14 := hU.same s014
  have mk : ∀ {Ha Hz : Hp}, Same Ha Hz → DdAll K (ban B Hz) ([V.non, .bl true, .bl false, .int (-1), .int 0, .int 1, .int q, .int n, .int (10 ^ 18 + 1), .str "", .str "set", .str "loop", .str "x", .ref t1, .ref l1, .ref d1, .ref t2] ++ [V.ref t3, .ref t5, .ref t7, .int (10 ^ 60), .ref t8, .ref t9]) (odds q n) → DdAll K (ban B Hz) ([V.non, .bl true, .bl false, .int (-1), .int 0, .int 1, .int q, .int n, .int (10 ^ 18 + 1), .str "", .str "set", .str "loop", .str "x", .ref t1, .ref l1, .ref d1, .ref t2] ++ [V.ref t3, .ref t5, .ref t7, .int (10 ^ 60), .ref t8, .ref t9]) (odds q n) := fun _ h => h
  have dd := mk s014 (by
    refine DdAll.append ?_ ?_
    · refine .cons .non (.cons (.bl _) (.cons (.bl _) (.cons (.int _) (.cons (.int _) (.cons (.int _) (.cons (.int _) (.cons (.int _) (.cons (.int _) (.cons (.str _) (.cons (.str _) (.cons (.str _) (.cons (.str _) (.cons ?_ (.cons ?_ (.cons ?_ (.cons ?_ .nil))))))))))))))))
      · exact .tup (SqT.of (ban_same ((s2.trans (s3.trans s4)).trans s414) _ _ c1)) .nil
      · exact .lst (SqL.of (ban_same ((s3.trans s4).trans s414) _ _ c2)) .nil
      · exact .dct (kvs := []) (ban_same (s4.trans s414) _ _ c3) rfl .nil
      · exact .tup (SqT.of (ban_same s414 _ _ c4)) (.cons (.str _) (.cons (.int _) (.cons (.int _) .nil)))
    · have s1314 := s13.trans s14
      have s1214 := s12.trans s1314
      have s1114 := s11.trans s1214
      have s1014 := s10.trans s1114
      have s914 := s9.trans s1014
      have s814 := s8.trans s914
      have s714 := s7.trans s814
      refine .cons ?_ (.cons ?_ (.cons ?_ (.cons (.int _) (.cons ?_ (.cons ?_ .nil)))))
      · exact .tup (SqT.of (ban_same s714 _ _ c6)) (.cons (.str _) (.cons (.int _) .nil))
      · exact .tup (SqT.of (ban_same s914 _ _ c8)) (.cons (.str _) (.cons (.int _) (.cons (.tup (SqT.of (ban_same s814 _ _ c7)) .nil) .nil)))
      · exact .tup (SqT.of (ban_same s1114 _ _ c10)) (.cons (.tup (SqT.of (ban_same s1014 _ _ c9)) (.cons (.str _) (.cons (.int _) (.cons (.int _) .nil)))) .nil)
      · exact .tup (SqT.of (ban_same s1214 _ _ c11)) (.cons (.str _) .nil)
      · exact .tup (SqT.of (ban_same s1314 _ _ c12)) (.cons (.str _) (.cons (.int _) (.cons (.int _) .nil))))
  have hx1 : [V.non, .bl true, .bl false, .int (-1), .int 0, .int 1, .int q, .int n, .int (10 ^ 18 + 1), .str "", .str "set", .str "loop", .str "x", .ref t1, .ref l1, .ref d1, .ref t2] ++ [V.ref t3, .ref t5, .ref t7, .int (10 ^ 60), .ref t8, .ref t9] ≠ [] := by intro e; cases e
  have hx2 : ([V.non, .bl true, .bl false, .int (-1), .int 0, .int 1, .int q, .int n, .int (10 ^ 18 + 1), .str "", .str "set", .str "loop", .str "x", .ref t1, .ref l1, .ref d1, .ref t2] ++ [V.ref t3, .ref t5, .ref t7, .int (10 ^ 60), .ref t8, .ref t9]).length ≤ 1000 := by show 23 ≤ 1000; decide
  have nu3 : L3 ≠ u := (hU.same (s04.trans (s5.trans (s512.trans s13)))).ne nL3
  refine ⟨u, L3, _, rfl, u14, nu3, SqL.of upd_same, hx1, hx2, fun x H' hx hU' hb => ?_⟩
  obtain ⟨d, md, hd⟩ := (dd.same (ban_but uB hb)).mem hx
  exact qq x d H' hU' ((But.same s014).trans hb) hd (odds_odd q0 q1 n0 n1 d md)
end
end K05
set_option Elab.async false
set_option pp.maxSteps 500
set_option pp.deepTerms.threshold 8
set_option pp.deepTerms false
set_option linter.all false
set_option maxRecDepth 100000
namespace K05
open PySem PySem.Spec PyProof.Rows L2 Lj
/-! ### one change -/
section
variable {P : Program} {w : World} {K : PySem.W.Frag} {mg : Str → Option Value} {base : Heap}
theorem way0 {ds : List PyData} (g : gd (.tuple ds)) (i : Nat) : Fit (.tuple ds) (.tuple (ds.take i ++ ds.drop (i + 1))) := by
  refine (fits (fun e m => fit_of g ?_) ?_ ?_).1
  · rcases List.mem_append.mp m with m | m
    · exact List.mem_of_mem_take m
    · exact List.mem_of_mem_drop m
  · have a := bts_cut ds i
    have b := bts_cut ds (i + 1)
    rw [bts_append]
    omega
  · rw [List.length_append, List.length_take, List.length_drop]
    omega
theorem way1 {ds : List PyData} (g : gd (.tuple ds)) (i : Nat) : Fit (.tuple ds) (.tuple (ds.take (i + 1) ++ ds.drop i)) := by
  refine (fits (fun e m => fit_of g ?_) ?_ ?_).1
  · rcases List.mem_append.mp m with m | m
    · exact List.mem_of_mem_take m
    · exact List.mem_of_mem_drop m
  · have a := bts_cut ds i
    have b := bts_cut ds (i + 1)
    rw [bts_append]
    omega
  · rw [List.length_append, List.length_take, List.length_drop]
    omega
theorem way2 {ds : List PyData} (g : gd (.tuple ds)) (i : Nat) : Fit (.tuple ds) (.tuple (ds.take i ++ ((ds.drop i).take 2).reverse ++ ds.drop (i + 2))) := by
  refine (fits (fun e m => fit_of g ?_) ?_ ?_).1
  · rcases List.mem_append.mp m with m | m
    · rcases List.mem_append.mp m with m | m
      · exact List.mem_of_mem_take m
      · exact List.mem_of_mem_drop (List.mem_of_mem_take (List.mem_reverse.mp m))
    · exact List.mem_of_mem_drop m
  · have a := bts_cut ds i
    have b := bts_cut (ds.drop i) 2
    rw [List.drop_drop] at b
    rw [bts_append, bts_append, bts_rev]
    omega
  · rw [List.length_append, List.length_append, List.length_reverse, List.length_take, List.length_take, List.length_drop, List.length_drop]
    omega
theorem way3 {ds : List PyData} (g : gd (.tuple ds)) : Fit (.tuple ds) (.list ds) := (fits (fun e m => fit_of g m) (by omega) (by omega)).2
theorem way4 {ds : List PyData} (g : gd (.tuple ds)) {i : Nat} {e e' : PyData} (he : ds[i]? = some e) (h : Fit e e') : Fit (.tuple ds) (.tuple (ds.take i ++ [e'] ++ ds.drop (i + 1))) := by
  have me := List.mem_of_getElem? he
  refine (fits (fun x m => ?_) ?_ ?_).1
  · rcases List.mem_append.mp m with m | m
    · rcases List.mem_append.mp m with m | m
      · exact fit_of g (List.mem_of_mem_take m)
      · cases List.mem_singleton.mp m
        obtain ⟨a, b, c, d⟩ := h
        have := dep_mem me
        have := lx_tup me
        exact ⟨a, by omega, by omega⟩
    · exact fit_of g (List.mem_of_mem_drop m)
  · have a := bts_at he
    have := h.2.1
    rw [bts_append, bts_append, bts, bts]
    omega
  · rw [List.length_append, List.length_append, List.length_take, List.length_drop, List.length_singleton]
    have := (List.getElem?_eq_some_iff.mp he).1
    omega
theorem fit_odd {d e : PyData} (h : Odd e) : Fit d e := ⟨h.1, by have := h.2.1; omega, by have := h.2.2.1; omega, by have := h.2.2.2; omega⟩
theorem cut_from1 (xs : List V) (i : Nat) : cutV xs (some ((i : Int) + 1)) none = xs.drop (i + 1) := cut_fromA xs (i + 1)
theorem cut_from2 (xs : List V) (i : Nat) : cutV xs (some ((i : Int) + 2)) none = xs.drop (i + 2) := cut_fromA xs (i + 2)
theorem cut_to1 (xs : List V) (i : Nat) : cutV xs none (some ((i : Int) + 1)) = xs.take (i + 1) := cut_to xs (i + 1)
theorem cut_two (xs : List V) (i : Nat) (h : i < xs.length) : cutV xs (some (i : Int)) (some ((i : Int) + 2)) = (xs.drop i).take 2 := by
  unfold cutV
  rw [show (i : Int) + 2 = ((i + 2 : Nat) : Int) by omega, HT.sIx_nat, HT.sIx_nat, Nat.min_eq_left (Nat.le_of_lt h)]
  by_cases c : i + 2 ≤ xs.length
  · rw [Nat.min_eq_left c, show i + 2 - i = 2 by omega]
  · rw [Nat.min_eq_right (by omega), List.take_of_length_le (by rw [List.length_drop]; exact Nat.le_refl _), List.take_of_length_le (by rw [List.length_drop]; omega)]
theorem ban_cut {B : List Addr} {H : Hp} {a : Addr} {xs ys : List V} {lo hi : Option Int} {Q : V → Hp → Prop} (sq : SqT K (ban B H) a xs) (hB : Held B H) (e : cutV xs lo hi = ys) (q : ∀ a' H', Same H H' → SqT K (ban B H') a' ys → Q (.ref a') H') : rSlA K (.ref a) lo hi H Q := by
  refine ⟨a, _, rfl, tup_same ban_on sq, fun h => ?_, fun _ p np => ?_⟩
  · have cw := cut_whole _ _ _ h
    rw [e] at cw
    exact q _ H (Same.refl H) (by rw [cw]; exact sq)
  · rw [e]
    exact q _ _ (same_new np) (SqT.of (ban_new hB np))
theorem ban_cat {B : List Addr} {H : Hp} {a b : Addr} {xs ys : List V} {Q : V → Hp → Prop} (sa : SqT K (ban B H) a xs) (sb : SqT K (ban B H) b ys) (hB : Held B H) (l : xs.length + ys.length ≤ sizeLine) (q : ∀ a' H', Same H H' → SqT K (ban B H') a' (xs ++ ys) → Q (.ref a') H') : rCatA K (.ref a) (.ref b) H Q := by
  refine ⟨a, b, xs, ys, rfl, rfl, tup_same ban_on sa, tup_same ban_on sb, l, fun e => ?_, fun _ e => ?_, fun _ _ p np => ?_⟩
  · subst e
    exact q b H (Same.refl H) sb
  · subst e
    exact q a H (Same.refl H) (by rw [List.append_nil]; exact sa)
  · exact q _ _ (same_new np) (SqT.of (ban_new hB np))
def spBent (K : PySem.W.Frag) (lv : Nat) : Sp := fun vs H Q _ => ∃ (u : Addr) (q n : Int) (v : V) (d : PyData) (B : List Addr), vs = [.ref u, .int q, .int n, v] ∧ Urn H u ∧ u ∈ B ∧ Held B H ∧ 0 ≤ q ∧ q ≤ 10007 ∧ 0 ≤ n ∧ n ≤ 8 ∧ Dd K (ban B H) v d ∧ gd d ∧ d.depth ≤ lv ∧ lx d ≤ 900 ∧
  ∀ v' d' H', Urn H' u → But u H H' → Dd K (ban B H') v' d' → Fit d d' → Q v' H'
def spBentm (K : PySem.W.Frag) : Nat → Sp
  | 0 => fun _ _ _ _ => False
  | lv + 1 => spBent K lv
set_option maxHeartbeats 4000000 in
theorem ok_bent1 (M : Bl mg) (F : At K mg "_law_bent" sBent ["_law_urn_here", "_law_q", "_law_wide", "_law_thing"]) {k lv : Nat} (h1 : Has P w K mg base k "_law_take" ["_law_urn_here", "_law_below"] spTake) (h2 : Has P w K mg base k "_law_odd" ["_law_urn_here", "_law_q", "_law_wide"] (spOdd K)) (h3 : Has P w K mg base k "_law_bent" ["_law_urn_here", "_law_q", "_law_wide", "_law_thing"] (spBentm K lv)) :
    Has P w K mg base (k + 1) "_law_bent" ["_law_urn_here", "_law_q", "_law_wide", "_law_thing"] (spBent K lv) := by
  obtain ⟨_, _, cTake⟩ := h1
  obtain ⟨_, _, cOdd⟩ := h2
  obtain ⟨_, _, cBent⟩ := h3
  refine Has.by F scBent (fun vs H Q E h => ?_) (fun f cdv A out s H vs Q E hg hr h => ?_)
  · obtain ⟨_, _, _, _, _, _, rfl, _⟩ := h
    rfl
  obtain ⟨u, q, n, v, d, B, rfl, hU, uB, hB, q0, q1, n0, n1, dd, g, dl, xl, qq⟩ := h
  refine ⟨_, (pss_cons (ps_if (PW.pt (pw_or (pt_not (pt_val (pe_callB call_isi (by rfl) M.isinstance_ (by decide +kernel) (pa_cons (pv 3) (pa_cons (pe_bltn (v := .ty "tuple") (by rfl) M.tuple_ (by decide +kernel) rfl) pa_nil))))) (pw_or (pt_cmpR (op_eq0 hr.units) (pv 3) (pe_tup pa_nil) (nomark _)) (pw_or1 (pt_cmpR op_eq (pe_cal cTake hg hr (by rfl) (pa_cons (pv 0) (pa_cons pe_int pa_nil))) pe_int (nomark _))))))
    (pss_one (ps_ret (pe_cal cOdd hg hr (by rfl) (pa_cons (pv 0) (pa_cons (pv 1) (pa_cons (pv 2) pa_nil))))))
    pss_nil)
  (pss_cons (ps_par (i := 4) (j := 5) (by rfl) scBent.nd rfl rfl (by decide) rfl rfl (pa_cons (pe_cal cTake hg hr (by rfl) (pa_cons (pv 0) (pa_cons (pe_callB call_len_seq (by rfl) M.len_ (by decide +kernel) (pa_cons (pv 3) pa_nil)) pa_nil))) (pa_cons (pe_cal cTake hg hr (by rfl) (pa_cons (pv 0) (pa_cons pe_int pa_nil))) pa_nil)) (by rfl))
  (pss_cons (ps_if (pt_cmpR op_eq (pv 5) pe_int (nomark _))
    (pss_one (ps_ret (pe_op op_catA (pe_slice sl_tupA (pv 3) po_none (po_some (pv 4))) (pe_slice sl_tupA (pv 3) (po_some (pe_op op_add (pv 4) pe_int)) po_none))))
    pss_nil)
  (pss_cons (ps_if (pt_cmpR op_eq (pv 5) pe_int (nomark _))
    (pss_one (ps_ret (pe_op op_catA (pe_slice sl_tupA (pv 3) po_none (po_some (pe_op op_add (pv 4) pe_int))) (pe_slice sl_tupA (pv 3) (po_some (pv 4)) po_none))))
    pss_nil)
  (pss_cons (ps_if (pt_cmpR op_eq (pv 5) pe_int (nomark _))
    (pss_one (ps_ret (pe_op op_catA (pe_op op_catA (pe_slice sl_tupA (pv 3) po_none (po_some (pv 4))) (pe_revT (pe_slice sl_tupA (pv 3) (po_some (pv 4)) (po_some (pe_op op_add (pv 4) pe_int))))) (pe_slice sl_tupA (pv 3) (po_some (pe_op op_add (pv 4) pe_int)) po_none))))
    pss_nil)
  (pss_cons (ps_if (pt_cmpR op_eq (pv 5) pe_int (nomark _))
    (pss_one (ps_ret (pe_callTy call_list_of (by rfl) M.list_ (by decide +kernel) (pa_cons (pv 3) pa_nil))))
    pss_nil)
  (pss_one (ps_ret (pe_op op_catA (pe_op op_catA (pe_slice sl_tupA (pv 3) po_none (po_some (pv 4))) (pe_tup (pa_cons (pe_cal cBent hg hr (by rfl) (pa_cons (pv 0) (pa_cons (pv 1) (pa_cons (pv 2) (pa_cons (pe_ix ix_tup (pv 3) (pv 4) (fun _ _ => rfl)) pa_nil))))) pa_nil))) (pe_slice sl_tupA (pv 3) (po_some (pe_op op_add (pv 4) pe_int)) po_none)))))))))), ?_⟩
  have don := dd.same ban_on
  have ty := Dd.kind don
  clear don
  have goOdd : ∀ {H1 : Hp}, Urn H1 u → But u H H1 → Held B H1 → ∀ v' d' H', Urn H' u → But u H1 H' → Dd K (ban B H') v' d' → Odd d' → Q v' H' := fun a b c v' d' H' u' b' dd' od => qq v' d' H' u' (b.trans b') dd' (fit_odd od)
  cases dd with
  | int i => exact ⟨_, rfl, _, _, _, _, false, rfl, .ty _, (show TyX K H _ (.type "int") from ty), kit_ty (by decide +kernel), _, rfl, iteT ⟨_, rfl, _, rfl, _, rfl, u, q, n, B, rfl, hU, uB, hB, q0, q1, n0, n1, goOdd hU (But.refl _ _) hB⟩⟩
  | bl i => exact ⟨_, rfl, _, _, _, _, false, rfl, .ty _, (show TyX K H _ (.type "bool") from ty), kit_ty (by decide +kernel), _, rfl, iteT ⟨_, rfl, _, rfl, _, rfl, u, q, n, B, rfl, hU, uB, hB, q0, q1, n0, n1, goOdd hU (But.refl _ _) hB⟩⟩
  | non => exact ⟨_, rfl, _, _, _, _, false, rfl, .ty _, (show TyX K H _ (.type "NoneType") from ty), kit_ty (by decide +kernel), _, rfl, iteT ⟨_, rfl, _, rfl, _, rfl, u, q, n, B, rfl, hU, uB, hB, q0, q1, n0, n1, goOdd hU (But.refl _ _) hB⟩⟩
  | str i => exact ⟨_, rfl, _, _, _, _, false, rfl, .ty _, (show TyX K H _ (.type "str") from ty), kit_ty (by decide +kernel), _, rfl, iteT ⟨_, rfl, _, rfl, _, rfl, u, q, n, B, rfl, hU, uB, hB, q0, q1, n0, n1, goOdd hU (But.refl _ _) hB⟩⟩
  | lst a r => exact ⟨_, rfl, _, _, _, _, false, rfl, .ty _, (show TyX K H _ (.type "list") from ty), kit_ty (by decide +kernel), _, rfl, iteT ⟨_, rfl, _, rfl, _, rfl, u, q, n, B, rfl, hU, uB, hB, q0, q1, n0, n1, goOdd hU (But.refl _ _) hB⟩⟩
  | dct a e r => exact ⟨_, rfl, _, _, _, _, false, rfl, .ty _, (show TyX K H _ (.type "dict") from ty), kit_ty (by decide +kernel), _, rfl, iteT ⟨_, rfl, _, rfl, _, rfl, u, q, n, B, rfl, hU, uB, hB, q0, q1, n0, n1, goOdd hU (But.refl _ _) hB⟩⟩
  | @tup c ys ds sq r =>
    refine ⟨_, rfl, _, _, _, _, true, rfl, .ty _, (show TyX K H _ (.type "tuple") from ty), kit_ty (by decide +kernel), _, rfl, iteF ?_⟩
    refine ⟨_, rfl, Nat.zero_le _, fun e0 ne0 => ?_⟩
    have s1 := same_new (o := .tup []) ne0
    have u1 := hU.same s1
    have hB1 := hB.same s1
    have yl := r.length
    refine ⟨c, e0, ys, rfl, rfl, tup_same (ban_on.trans s1) sq, SqT.of upd_same, _, rfl, ?_⟩
    cases ey : ys with
    | nil => exact iteT ⟨_, rfl, _, rfl, _, rfl, u, q, n, B, rfl, u1, uB, hB1, q0, q1, n0, n1, goOdd u1 (But.same s1) hB1⟩
    | cons y0 ys0 =>
      refine iteF ?_
      have y0 : 0 < ys.length := by rw [ey]; exact Nat.succ_pos _
      have y1 : ys.length ≤ 900 := by rw [yl]; exact Nat.le_trans (lx_len ds) xl
      refine ⟨_, rfl, u, 9, rfl, u1, by decide, wide_big (by decide) (by decide), fun z H2 z0 z1 u2 b2 => ?_⟩
      have bb2 : But u H H2 := (But.same s1).trans b2
      have hB2 := hB.but bb2 (urn_at u2)
      refine ⟨rfl, _, rfl, ite2 (fun _ => ?_) (fun _ => ?_)⟩
      · exact ⟨_, rfl, _, rfl, _, rfl, u, q, n, B, rfl, u2, uB, hB2, q0, q1, n0, n1, goOdd u2 bb2 hB2⟩
      -- the place and the way
      have sq2 := tup_same (ban_but uB bb2) sq
      refine ⟨_, rfl, _, rfl, c, ys, rfl, .inr (tup_same ban_on sq2), u, _, rfl, u2, by omega, wide_big (by omega) (by omega), fun at_ H3 a0 a1 u3 b3 => ?_⟩
      refine ⟨_, rfl, u, 12, rfl, u3, by decide, wide_big (by decide) (by decide), fun wy H4 w0 w1 u4 b4 => ?_⟩
      have bb4 : But u H H4 := bb2.trans (b3.trans b4)
      have hB4 := hB.but bb4 (urn_at u4)
      have sq4 := tup_same (ban_but uB bb4) sq
      have r4 := r.same (ban_but uB bb4)
      obtain ⟨i, rfl⟩ : ∃ i : Nat, at_ = (i : Int) := ⟨at_.toNat, by omega⟩
      have hi : i < ys.length := by omega
      refine ⟨_, _, rfl, ?_⟩
      have lenA : ∀ (a b : List V), a.length ≤ 2000 → b.length ≤ 1000 → a.length + b.length ≤ sizeLine := fun a b x y => by rw [sizeLine_eq]; omega
      have tk : ∀ j, (ys.take j).length ≤ 1000 := fun j => by rw [List.length_take]; omega
      have dr : ∀ j, (ys.drop j).length ≤ 1000 := fun j => by rw [List.length_drop]; omega
      -- left out
      refine ⟨_, rfl, rfl, _, rfl, ite2 (fun _ => ?_) (fun _ => ?_)⟩
      · refine ⟨_, rfl, _, rfl, (i : Int), rfl, ?_⟩
        refine ban_cut sq4 hB4 (cut_to ys i) fun p5 H5 s5 q5 => ?_
        refine ⟨_, rfl, _, rfl, _, _, rfl, rfl, (i : Int) + 1, rfl, no_part ?_⟩
        refine ban_cut (tup_same (ban_same s5) sq4) (hB4.same s5) (cut_from1 ys i) fun p6 H6 s6 q6 => ?_
        refine ban_cat (tup_same (ban_same s6) q5) q6 (hB4.same (s5.trans s6)) (lenA _ _ (Nat.le_trans (tk _) (by decide)) (dr _)) fun p7 H7 s7 q7 => ?_
        have ss := (s5.trans s6).trans s7
        have r7 := r4.same (ban_same ss)
        exact qq _ _ H7 (u4.same ss) (bb4.trans (But.same ss)) (.tup q7 ((r7.take i).append (r7.drop (i + 1)))) (way0 g i)
      -- doubled
      refine ⟨_, rfl, rfl, _, rfl, ite2 (fun _ => ?_) (fun _ => ?_)⟩
      · refine ⟨_, rfl, _, rfl, _, _, rfl, rfl, (i : Int) + 1, rfl, ?_⟩
        refine ban_cut sq4 hB4 (cut_to1 ys i) fun p5 H5 s5 q5 => ?_
        refine ⟨_, rfl, _, rfl, (i : Int), rfl, no_part ?_⟩
        refine ban_cut (tup_same (ban_same s5) sq4) (hB4.same s5) (cut_fromA ys i) fun p6 H6 s6 q6 => ?_
        refine ban_cat (tup_same (ban_same s6) q5) q6 (hB4.same (s5.trans s6)) (lenA _ _ (Nat.le_trans (tk _) (by decide)) (dr _)) fun p7 H7 s7 q7 => ?_
        have ss := (s5.trans s6).trans s7
        have r7 := r4.same (ban_same ss)
        exact qq _ _ H7 (u4.same ss) (bb4.trans (But.same ss)) (.tup q7 ((r7.take (i + 1)).append (r7.drop i))) (way1 g i)
      -- exchanged
      refine ⟨_, rfl, rfl, _, rfl, ite2 (fun _ => ?_) (fun _ => ?_)⟩
      · refine ⟨_, rfl, _, rfl, (i : Int), rfl, ?_⟩
        refine ban_cut sq4 hB4 (cut_to ys i) fun p5 H5 s5 q5 => ?_
        refine ⟨_, rfl, _, rfl, (i : Int), rfl, _, rfl, _, _, rfl, rfl, (i : Int) + 2, rfl, ?_⟩
        refine ban_cut (tup_same (ban_same s5) sq4) (hB4.same s5) (cut_two ys i hi) fun p6 H6 s6 q6 => ?_
        refine ⟨p6, _, rfl, tup_same ban_on q6, fun p7 n7 => ?_⟩
        have s7 := same_new (o := .tup ((ys.drop i).take 2).reverse) n7
        have hB6 := hB4.same (s5.trans s6)
        have q7 : SqT K (ban B _) p7 ((ys.drop i).take 2).reverse := SqT.of (ban_new hB6 n7)
        refine ban_cat (tup_same (ban_same (s6.trans s7)) q5) q7 (hB6.same s7) (lenA _ _ (Nat.le_trans (tk _) (by decide)) (by rw [List.length_reverse, List.length_take]; omega)) fun p8 H8 s8 q8 => ?_
        refine ⟨_, rfl, _, rfl, _, _, rfl, rfl, (i : Int) + 2, rfl, no_part ?_⟩
        have s58 := (s5.trans s6).trans (s7.trans s8)
        refine ban_cut (tup_same (ban_same s58) sq4) (hB4.same s58) (cut_from2 ys i) fun p9 H9 s9 q9 => ?_
        refine ban_cat (tup_same (ban_same s9) q8) q9 (hB4.same (s58.trans s9)) (lenA _ _ ?_ (dr _)) fun pa Ha sa qa => ?_
        · rw [List.length_append, List.length_reverse, List.length_take, List.length_take]
          omega
        have ss := s58.trans (s9.trans sa)
        have ra := r4.same (ban_same ss)
        exact qq _ _ Ha (u4.same ss) (bb4.trans (But.same ss)) (.tup qa (((ra.take i).append ((ra.drop i).take 2).reverse).append (ra.drop (i + 2)))) (way2 g i)
      -- a list
      refine ⟨_, rfl, rfl, _, rfl, ite2 (fun _ => ?_) (fun _ => ?_)⟩
      · refine ⟨_, rfl, c, ys, rfl, .inr (tup_same ban_on sq4), fun l5 n5 => ?_⟩
        have s5 := same_new (o := .lst ys) n5
        exact qq _ _ _ (u4.same s5) (bb4.trans (But.same s5)) (.lst (SqL.of (ban_new hB4 n5)) (r4.same (ban_same s5))) (way3 g)
      -- changed within
      refine ⟨_, rfl, _, rfl, (i : Int), rfl, ?_⟩
      refine ban_cut sq4 hB4 (cut_to ys i) fun p5 H5 s5 q5 => ?_
      have sq5 := tup_same (ban_same s5) sq4
      have u5 := u4.same s5
      have hB5 := hB4.same s5
      have r5 := r4.same (ban_same s5)
      obtain ⟨y, hy⟩ : ∃ y, ys[i]? = some y := ⟨_, List.getElem?_eq_getElem hi⟩
      obtain ⟨e, he, de⟩ := r5.get hy
      have me := List.mem_of_getElem? he
      have dt : PyData.depth (.tuple ds) = PyData.depthAll ds + 1 := by rw [PyData.depth]
      have dm := dep_mem me
      cases lv with
      | zero => omega
      | succ lv =>
        refine ⟨_, rfl, _, rfl, _, rfl, _, rfl, _, rfl, c, ys, (i : Int), y, rfl, rfl, tup_same ban_on sq5, atI_nat hy, u, q, n, y, e, B, rfl, u5, uB, hB5, q0, q1, n0, n1, de, (fit_of g me).1, by omega, Nat.le_trans (lx_tup me) xl, fun v' d' H6 u6 b6 dd6 ft => ?_⟩
        have hB6 := hB5.but b6 (urn_at u6)
        refine ⟨(by show 1 ≤ sizeLine; decide), fun p7 n7 => ?_⟩
        have s7 := same_new (o := .tup [v']) n7
        have q7 : SqT K (ban B _) p7 [v'] := SqT.of (ban_new hB6 n7)
        have hB7 := hB6.same s7
        have k57 : Same (ban B H5) (ban B (upd H6 p7 (.tup [v']))) := (ban_but uB b6).trans (ban_same s7)
        refine ban_cat (tup_same k57 q5) q7 hB7 (lenA _ _ (Nat.le_trans (tk _) (by decide)) (by show 1 ≤ 1000; decide)) fun p8 H8 s8 q8 => ?_
        refine ⟨_, rfl, _, rfl, _, _, rfl, rfl, (i : Int) + 1, rfl, no_part ?_⟩
        have k58 : Same (ban B H5) (ban B H8) := k57.trans (ban_same s8)
        refine ban_cut (tup_same k58 sq5) (hB7.same s8) (cut_from1 ys i) fun p9 H9 s9 q9 => ?_
        refine ban_cat (tup_same (ban_same s9) q8) q9 (hB7.same (s8.trans s9)) (lenA _ _ ?_ (dr _)) fun pa Ha sa qa => ?_
        · rw [List.length_append, List.length_take]
          show _ + 1 ≤ _
          omega
        have s79 := (s8.trans s9).trans sa
        have ra := r5.same (k57.trans (ban_same s79))
        exact qq _ _ Ha ((u6.same s7).same s79) (bb4.trans ((But.same s5).trans (b6.trans (But.same (s7.trans s79))))) (.tup qa (((ra.take i).append (.cons (dd6.same ((ban_same s7).trans (ban_same s79))) .nil)).append (ra.drop (i + 1)))) (way4 g he ft)
theorem ok_bent (M : Bl mg) (F : At K mg "_law_bent" sBent ["_law_urn_here", "_law_q", "_law_wide", "_law_thing"]) {k : Nat} (h1 : Has P w K mg base k "_law_take" ["_law_urn_here", "_law_below"] spTake) (h2 : Has P w K mg base k "_law_odd" ["_law_urn_here", "_law_q", "_law_wide"] (spOdd K)) : ∀ lv : Nat, Has P w K mg base (k + lv + 1) "_law_bent" ["_law_urn_here", "_law_q", "_law_wide", "_law_thing"] (spBent K lv)
  | 0 => ok_bent1 (lv := 0) M F h1 h2 (Has.none F fun _ _ _ _ h => h)
  | lv + 1 => ok_bent1 (lv := lv + 1) M F (h1.up (by omega)) (h2.up (by omega)) (ok_bent M F h1 h2 lv)
end
end K05
set_option Elab.async false
set_option pp.maxSteps 500
set_option pp.deepTerms.threshold 8
set_option pp.deepTerms false
set_option linter.all false
set_option maxRecDepth 100000
namespace K05
open PySem PySem.Spec PyProof.Rows L2 Lj
/-! ### programs at the limits -/
section
variable {P : Program} {w : World} {K : PySem.W.Frag} {mg : Str → Option Value} {base : Heap}
def Od (N D X : Nat) (d : PyData) : Prop := gd d ∧ bt d ≤ N ∧ d.depth ≤ D ∧ lx d ≤ X
theorem Od.sm {N D X : Nat} {d : PyData} (h : Od N D X d) (a : N ≤ 10000000) (b : D ≤ 60) (c : X ≤ 1000) : Sm d := ⟨h.1, Nat.le_trans h.2.1 a, Nat.le_trans h.2.2.1 b, Nat.le_trans h.2.2.2 c⟩
theorem Od.up {N D X N' D' X' : Nat} {d : PyData} (h : Od N D X d) (a : N ≤ N') (b : D ≤ D') (c : X ≤ X') : Od N' D' X' d := ⟨h.1, Nat.le_trans h.2.1 a, Nat.le_trans h.2.2.1 b, Nat.le_trans h.2.2.2 c⟩
theorem bts_le : ∀ {ds : List PyData} {N : Nat}, (∀ d ∈ ds, bt d ≤ N) → bts ds ≤ ds.length * N
  | [], N, _ => by rw [bts]; exact Nat.zero_le _
  | a :: ds, N, h => by
    have x := h a List.mem_cons_self
    have y := bts_le (ds := ds) fun d m => h d (List.mem_cons_of_mem _ m)
    rw [bts, List.length_cons, Nat.succ_mul]
    omega
theorem od_tup {N D X : Nat} {ds : List PyData} (h : ∀ d ∈ ds, Od N D X d) (l : ds.length ≤ X) : Od (5 + ds.length * N) (D + 1) X (.tuple ds) := by
  have b := bts_le fun d m => (h d m).2.1
  have c := dep_all fun d m => (h d m).2.2.1
  have e := lx_all fun d m => (h d m).2.2.2
  exact ⟨by rw [gd]; exact gds_all.mpr fun d m => (h d m).1, by rw [bt]; omega, by rw [PyData.depth]; omega, by rw [lx]; exact Nat.max_le.mpr ⟨l, e⟩⟩
theorem od_leaf {X : Nat} {d : PyData} (h : Leaf d) (n : ∀ ds, d ≠ .list ds ∧ d ≠ .tuple ds) : Od 1923 0 X d := by
  obtain ⟨a, b, c, e⟩ := id h
  cases d with
  | list ds => exact absurd rfl (n ds).1
  | tuple ds => exact absurd rfl (n ds).2
  | dict kv => rw [PyData.depth] at c; omega
  | none => exact ⟨by rw [gd]; trivial, by rw [bt]; exact Nat.le_refl _, by omega, by simp [lx]⟩
  | bool x => exact ⟨by rw [gd]; trivial, by rw [bt]; exact Nat.le_refl _, by omega, by simp [lx]⟩
  | int i => exact ⟨by rw [gd]; exact h, by rw [bt]; exact Nat.le_refl _, by omega, by simp [lx]⟩
  | str x => exact ⟨by rw [gd]; exact h, by rw [bt]; exact Nat.le_refl _, by omega, by simp [lx]⟩
theorem od_i {X : Nat} {i : Int} (h : i.natAbs < 2 ^ 1000) : Od 1923 0 X (.int i) := od_leaf (leaf_i h) fun ds => ⟨fun e => PyData.noConfusion e, fun e => PyData.noConfusion e⟩
theorem od_s {X : Nat} {x : Str} (h : x ∈ oWords) : Od 1923 0 X (.str x) := od_leaf (leaf_w h) fun ds => ⟨fun e => PyData.noConfusion e, fun e => PyData.noConfusion e⟩
theorem od_op3 {X : Nat} {x : Str} (h : x ∈ oWords) {i j : Int} (hi : i.natAbs < 2 ^ 1000) (hj : j.natAbs < 2 ^ 1000) (l : 3 ≤ X) : Od 5774 1 X (.tuple [.str x, .int i, .int j]) :=
  od_tup (N := 1923) (D := 0) (fun d m => by
    simp only [List.mem_cons, List.not_mem_nil, or_false] at m
    rcases m with rfl | rfl | rfl
    · exact od_s h
    · exact od_i hi
    · exact od_i hj) l
theorem od_op2 {X : Nat} {x : Str} (h : x ∈ oWords) {i : Int} (hi : i.natAbs < 2 ^ 1000) (l : 2 ≤ X) : Od 3851 1 X (.tuple [.str x, .int i]) :=
  od_tup (N := 1923) (D := 0) (fun d m => by
    simp only [List.mem_cons, List.not_mem_nil, or_false] at m
    rcases m with rfl | rfl
    · exact od_s h
    · exact od_i hi) l
theorem od_one {N D X : Nat} {d : PyData} (h : Od N D X d) (l : 1 ≤ X) : Od (5 + N) (D + 1) X (.tuple [d]) := by
  have := od_tup (ds := [d]) (fun e m => by rw [List.mem_singleton.mp m]; exact h) l
  rw [List.length_singleton, Nat.one_mul] at this
  exact this
theorem od_loop {N D X : Nat} {k d : PyData} (hk : Od 1923 0 X k) (h : Od N D X d) (l : 3 ≤ X) : Od (3851 + N) (D + 1) X (.tuple [.str "loop", k, d]) := by
  have hs : Od 1923 0 X (.str "loop") := od_s (by decide)
  refine ⟨?_, ?_, ?_, ?_⟩
  · rw [gd, gds, gds, gds, gds]
    exact ⟨hs.1, hk.1, h.1, trivial⟩
  · rw [bt, bts, bts, bts, bts]
    have := hs.2.1
    have := hk.2.1
    have := h.2.1
    omega
  · rw [PyData.depth, PyData.depthAll, PyData.depthAll, PyData.depthAll, PyData.depthAll]
    have := hs.2.2.1
    have := hk.2.2.1
    have := h.2.2.1
    omega
  · rw [lx, lxs, lxs, lxs, lxs]
    have := hs.2.2.2
    have := hk.2.2.2
    have := h.2.2.2
    show max 3 _ ≤ X
    omega
theorem dd_rep {H : Hp} {v : V} {d : PyData} (h : Dd K H v d) : ∀ k : Nat, DdAll K H (List.replicate k v) (List.replicate k d)
  | 0 => .nil
  | k + 1 => .cons h (dd_rep h k)
theorem ban_sub {B B' : List Addr} {H : Hp} (h : ∀ x ∈ B, x ∈ B') : Same (ban B' H) (ban B H) := fun b o e => by
  unfold ban at e ⊢
  split at e
  · cases e
  · rename_i n
    rw [if_neg fun m => n (h _ m)]
    exact e
/-- a list of values that may be asked about -/
def Ed (K : PySem.W.Frag) (n : Nat) (l : Addr) (H : Hp) : Prop := ∃ xs ds, H l = some (.lst xs) ∧ DdAll K (ban [l] H) xs ds ∧ (∀ d ∈ ds, Sm d) ∧ xs.length ≤ n
theorem Ed.same {n : Nat} {l : Addr} {H H' : Hp} (s : Same H H') (h : Ed K n l H) : Ed K n l H' := by
  obtain ⟨xs, ds, a, b, c, e⟩ := h
  exact ⟨xs, ds, s _ _ a, b.same (ban_same s), c, e⟩
theorem Ed.held {n : Nat} {l : Addr} {H : Hp} (h : Ed K n l H) : Held [l] H := fun x m => by
  obtain ⟨xs, ds, a, _⟩ := h
  rw [List.mem_singleton.mp m]
  exact ⟨_, a⟩
/-- append -/
theorem Ed.push {n : Nat} {l : Addr} {H : Hp} (h : Ed K n l H) {v : V} {d : PyData} (dd : Dd K (ban [l] H) v d) (sm : Sm d) (big : n ≤ 1000) {Q : V → Hp → Prop} (q : ∀ H', But l H H' → Ed K (n + 1) l H' → Q .non H') : rAppend (.ref l) [v] H Q := by
  obtain ⟨xs, ds, a, b, c, e⟩ := h
  have k := ban_but (B := [l]) List.mem_cons_self (But.upd (p := l) (H := H) (o := .lst (xs ++ [v])))
  refine ⟨l, xs, v, rfl, rfl, a, by rw [sizeLine_eq]; omega, q _ But.upd ⟨xs ++ [v], ds ++ [d], upd_same, (b.same k).append (.cons (dd.same k) .nil), fun x m => ?_, by rw [List.length_append, List.length_singleton]; omega⟩⟩
  rcases List.mem_append.mp m with m | m
  · exact c x m
  · rw [List.mem_singleton.mp m]; exact sm
/-- extend -/
theorem Ed.more {n m : Nat} {l D : Addr} {H : Hp} (h : Ed K n l H) {vs : List V} {es : List PyData} (hD : H D = some (.lst vs)) (dd : DdAll K (ban [l] H) vs es) (sm : ∀ d ∈ es, Sm d) (lm : vs.length ≤ m) (big : n + m ≤ 1000) {Q : V → Hp → Prop} (q : ∀ H', But l H H' → Ed K (n + m) l H' → Q .non H') : rExtend (.ref l) [.ref D] H Q := by
  obtain ⟨xs, ds, a, b, c, e⟩ := h
  have k := ban_but (B := [l]) List.mem_cons_self (But.upd (p := l) (H := H) (o := .lst (xs ++ vs)))
  refine ⟨l, D, xs, vs, rfl, rfl, a, hD, by rw [sizeLine_eq]; omega, q _ But.upd ⟨xs ++ vs, ds ++ es, upd_same, (b.same k).append (dd.same k), fun x m => ?_, by rw [List.length_append]; omega⟩⟩
  rcases List.mem_append.mp m with m | m
  · exact c x m
  · exact sm x m
/-- ((word, 0),) -/
def wd (x : Str) : PyData := .tuple [.tuple [.str x, .int 0]]
theorem od_wd {x : Str} (h : x ∈ oWords) : Od 3856 2 8 (wd x) := od_one (od_op2 h (by decide) (by decide)) (by decide)
theorem mk_wd {B : List Addr} {H : Hp} {x : Str} {t1 t2 : Addr} (hB : Held B H) (n1 : H t1 = none) (n2 : (upd H t1 (.tup [.str x, .int 0])) t2 = none) : Dd K (ban B (upd (upd H t1 (.tup [.str x, .int 0])) t2 (.tup [.ref t1]))) (.ref t2) (wd x) ∧ Same H (upd (upd H t1 (.tup [.str x, .int 0])) t2 (.tup [.ref t1])) := by
  have s1 := same_new (o := .tup [.str x, .int 0]) n1
  have c1 := ban_new (o := .tup [.str x, .int 0]) hB n1
  have s2 := same_new (o := .tup [.ref t1]) n2
  have c2 := ban_new (o := .tup [.ref t1]) (hB.same s1) n2
  exact ⟨.tup (SqT.of c2) (.cons (.tup (SqT.of (ban_same s2 _ _ c1)) (.cons (.str _) (.cons (.int _) .nil))) .nil), s1.trans s2⟩
theorem mk_lp {B : List Addr} {H : Hp} {kv bv : V} {kd bd : PyData} {t1 : Addr} (hB : Held B H) (n1 : H t1 = none) (dk : Dd K (ban B H) kv kd) (db : Dd K (ban B H) bv bd) : Dd K (ban B (upd H t1 (.tup [.str "loop", kv, bv]))) (.ref t1) (.tuple [.str "loop", kd, bd]) := by
  have s1 := same_new (o := .tup [.str "loop", kv, bv]) n1
  exact .tup (SqT.of (ban_new hB n1)) (.cons (.str _) (.cons (dk.same (ban_same s1)) (.cons (db.same (ban_same s1)) .nil)))
theorem mk_one {B : List Addr} {H : Hp} {bv : V} {bd : PyData} {t1 : Addr} (hB : Held B H) (n1 : H t1 = none) (db : Dd K (ban B H) bv bd) : Dd K (ban B (upd H t1 (.tup [bv]))) (.ref t1) (.tuple [bd]) :=
  .tup (SqT.of (ban_new hB n1)) (.cons (db.same (ban_same (same_new n1))) .nil)
theorem mk_two {B : List Addr} {H : Hp} {bv cv : V} {bd cd : PyData} {t1 : Addr} (hB : Held B H) (n1 : H t1 = none) (db : Dd K (ban B H) bv bd) (dc : Dd K (ban B H) cv cd) : Dd K (ban B (upd H t1 (.tup [bv, cv]))) (.ref t1) (.tuple [bd, cd]) :=
  .tup (SqT.of (ban_new hB n1)) (.cons (db.same (ban_same (same_new n1))) (.cons (dc.same (ban_same (same_new n1))) .nil))
theorem nil_app {σ : L2.St} {H : Hp} {Q : List V → Hp → Prop} (h : Q [] H) : tNil σ H Q := h
theorem held0 {H : Hp} : Held [] H := fun x m => nomatch m
def spEdges (K : PySem.W.Frag) : Sp := fun vs H Q _ => vs = [] ∧ ∀ l xs ds H', Same H H' → H' l = some (.lst xs) → DdAll K H' xs ds → (∀ d ∈ ds, Sm d) → xs.length ≤ 100 → Q (.ref l) H'
set_option maxHeartbeats 4000000 in
theorem ok_edges (M : Bl mg) (F : At K mg "_law_edges" sEdges []) : Has P w K mg base 1 "_law_edges" [] (spEdges K) := by
  refine Has.by F scEdges (fun vs H Q E h => ?_) (fun f cdv A out s H vs Q E hg hr h => ?_)
  · obtain ⟨rfl, _⟩ := h
    rfl
  obtain ⟨rfl, q⟩ := h
  refine ⟨_, (pss_cons (ps_asg (pe_tup (pa_cons (pe_tup (pa_cons pe_str (pa_cons pe_int (pa_cons pe_int pa_nil)))) (pa_cons (pe_tup (pa_cons (pe_tup (pa_cons pe_str (pa_cons pe_int (pa_cons pe_int pa_nil)))) pa_nil)) pa_nil))) (pg_tup rfl (pgs_cons (pg_name (i := 0) scEdges.nd rfl (.inl rfl)) (pgs_cons (pg_name (i := 1) scEdges.nd rfl (.inl rfl)) pgs_nil))))
  (pss_cons (ps_set (i := 2) scEdges.nd rfl (.inl rfl) (pe_lst (pa_cons (pe_op op_rep1 (pe_tup (pa_cons (pv 0) pa_nil)) pe_int) (pa_cons (pe_op op_rep1 (pe_tup (pa_cons (pv 0) pa_nil)) pe_int) (pa_cons (pe_tup (pa_cons (pe_tup (pa_cons pe_str (pa_cons pe_int (pa_cons (pe_op op_rep1 (pe_tup (pa_cons (pv 0) pa_nil)) pe_int) pa_nil)))) pa_nil)) (pa_cons (pe_tup (pa_cons (pe_tup (pa_cons pe_str (pa_cons pe_int (pa_cons (pe_op op_rep1 (pe_tup (pa_cons (pv 0) pa_nil)) pe_int) pa_nil)))) pa_nil)) (pa_cons (pe_tup pa_nil) pa_nil)))))))
  (pss_cons (ps_for PassesOwn.never rfl (pi_range1 (by rfl) M.range_ (pa_cons pe_int pa_nil)) (pg_name (i := 3) scEdges.nd rfl (.inl rfl))
    (pss_cons (ps_set (i := 1) scEdges.nd rfl (.inl rfl) (pe_tup (pa_cons (pe_tup (pa_cons pe_str (pa_cons (pe_op op_pow pe_int pe_int) (pa_cons (pv 1) pa_nil)))) pa_nil)))
  (pss_one (ps_expr (pe_bm PySem.F.plainAttrs_list PySem.F.slot_list_append PySem.F.type_list_append mt_append (pv 2) (pa_cons (pv 1) pa_nil))))))
  (pss_cons (ps_for PassesOwn.never rfl (pi_tup (pe_tup (pa_cons pe_str (pa_cons pe_str pa_nil)))) (pg_name (i := 4) scEdges.nd rfl (.inr rfl))
    (pss_cons (ps_expr (pe_bm PySem.F.plainAttrs_list PySem.F.slot_list_extend PySem.F.type_list_extend mt_extend (pv 2) (pa_cons (pe_lc (own := [("_law_count", 5)]) (g := gName 5) (by rfl) scEdges.nd (pi_tup (pe_tup (pa_cons pe_int (pa_cons pe_int pa_nil)))) (blkOk_by (own := [("_law_count", 5)]) (N := ["_law_one", "_law_deep", "_law_some", "_law_turn", "_law_word", "_law_count"]) (sc := defScope sEdges) (by decide +kernel)) (fun _ _ _ _ _ => (pg_name (i := 5) scEdges.nd rfl (.inl rfl))) (fun _ _ _ _ _ => pts_nil) (fun _ _ _ _ _ => (pe_tup (pa_cons (pe_tup (pa_cons pe_str (pa_cons (pv 5) (pa_cons (pe_tup (pa_cons (pe_tup (pa_cons (pv 4) (pa_cons pe_int pa_nil))) pa_nil)) pa_nil)))) pa_nil)))) pa_nil)))
  (pss_cons (ps_expr (pe_bm PySem.F.plainAttrs_list PySem.F.slot_list_append PySem.F.type_list_append mt_append (pv 2) (pa_cons (pe_tup (pa_cons (pe_tup (pa_cons pe_str (pa_cons pe_int (pa_cons (pe_tup (pa_cons (pe_tup (pa_cons pe_str (pa_cons pe_int (pa_cons (pe_tup (pa_cons (pe_tup (pa_cons (pv 4) (pa_cons pe_int pa_nil))) pa_nil)) pa_nil)))) pa_nil)) pa_nil)))) (pa_cons (pe_tup (pa_cons (pv 4) (pa_cons pe_int pa_nil))) pa_nil))) pa_nil)))
  (pss_one (ps_expr (pe_bm PySem.F.plainAttrs_list PySem.F.slot_list_append PySem.F.type_list_append mt_append (pv 2) (pa_cons (pe_tup (pa_cons (pe_tup (pa_cons pe_str (pa_cons (pe_op op_pow pe_int pe_int) (pa_cons (pe_tup (pa_cons (pe_tup (pa_cons pe_str (pa_cons pe_int (pa_cons (pe_tup (pa_cons (pe_tup (pa_cons (pv 4) (pa_cons pe_int pa_nil))) pa_nil)) pa_nil)))) pa_nil)) pa_nil)))) pa_nil)) pa_nil)))))))
  (pss_one (ps_ret (pe_op op_cat (pv 2) (pe_lc (own := [("_law_count", 5)]) (g := gName 5) (by rfl) scEdges.nd (pi_tup (pe_tup (pa_cons (pe_un un_neg pe_int) (pa_cons pe_int (pa_cons (pe_op op_pow pe_int pe_int) (pa_cons (pe_op op_add (pe_op op_pow pe_int pe_int) pe_int) (pa_cons pe_bl pa_nil))))))) (blkOk_by (own := [("_law_count", 5)]) (N := ["_law_one", "_law_deep", "_law_some", "_law_turn", "_law_word", "_law_count"]) (sc := defScope sEdges) (by decide +kernel)) (fun _ _ _ _ _ => (pg_name (i := 5) scEdges.nd rfl (.inl rfl))) (fun _ _ _ _ _ => pts_nil) (fun _ _ _ _ _ => (pe_tup (pa_cons (pe_tup (pa_cons pe_str (pa_cons (pv 5) (pa_cons (pe_tup pa_nil) pa_nil)))) pa_nil))))))))))), ?_⟩
  have hx0 : Held [] H := held0
  -- one, deep
  refine ⟨(by show 3 ≤ sizeLine; decide), fun t1 n1 => ?_⟩
  have s1 := same_new (o := .tup [.str "set", .int 0, .int 0]) n1
  have d1 : Dd K (ban [] _) (.ref t1) (.tuple [.str "set", .int 0, .int 0]) := .tup (SqT.of (ban_new hx0 n1)) (.cons (.str _) (.cons (.int _) (.cons (.int _) .nil)))
  refine ⟨(by show 3 ≤ sizeLine; decide), fun t2 n2 => ?_⟩
  have s2 := same_new (o := .tup [.str "set", .int 0, .int 1]) n2
  have d2 : Dd K (ban [] _) (.ref t2) (.tuple [.str "set", .int 0, .int 1]) := .tup (SqT.of (ban_new held0 n2)) (.cons (.str _) (.cons (.int _) (.cons (.int _) .nil)))
  refine ⟨(by show 1 ≤ sizeLine; decide), fun t3 n3 => ?_⟩
  have s3 := same_new (o := .tup [.ref t2]) n3
  have d3' := mk_one held0 n3 d2
  refine ⟨(by show 2 ≤ sizeLine; decide), fun t0 n0 => ?_⟩
  have s30 := same_new (o := .tup [.ref t1, .ref t3]) n0
  have d3 := d3'.same (ban_same s30)
  have s3 := s3.trans s30
  refine ⟨t0, _, rfl, SqT.of upd_same, rfl, _, _, rfl, _, _, rfl, rfl, ?_⟩
  -- the first five
  refine ⟨_, rfl, (by show 1 ≤ sizeLine; decide), fun a1 na1 => ⟨a1, 200, _, rfl, rfl, SqT.of upd_same, (by intro z; cases z), by decide, by decide, (by show 1 ≤ 1000; decide), fun z => absurd z (by decide), fun _ p1 np1 => ?_⟩⟩
  have sa1 := same_new (o := .tup [.ref t1]) na1
  have sp1 := same_new (o := .tup (List.replicate (200 : Int).toNat [V.ref t1]).flatten) np1
  have rep : ∀ {H' : Hp} {p : Addr} (k : Nat), H' p = some (.tup (List.replicate k [V.ref t1]).flatten) → Dd K (ban [] H') (.ref t1) (.tuple [.str "set", .int 0, .int 0]) → Dd K (ban [] H') (.ref p) (.tuple (List.replicate k (.tuple [.str "set", .int 0, .int 0]))) := fun {H' p} k e d => by
    rw [List.flatten_replicate_singleton] at e
    exact .tup (SqT.of (ban_at e (fun m => nomatch m))) (dd_rep d k)
  have e1 := d1.same (ban_same (s2.trans (s3.trans (sa1.trans sp1))))
  have g1 := rep 200 upd_same e1
  refine ⟨_, rfl, (by show 1 ≤ sizeLine; decide), fun a2 na2 => ⟨a2, 201, _, rfl, rfl, SqT.of upd_same, (by intro z; cases z), by decide, by decide, (by show 1 ≤ 1000; decide), fun z => absurd z (by decide), fun _ p2 np2 => ?_⟩⟩
  have sa2 := same_new (o := .tup [.ref t1]) na2
  have sp2 := same_new (o := .tup (List.replicate (201 : Int).toNat [V.ref t1]).flatten) np2
  have e2 := e1.same (ban_same (sa2.trans sp2))
  have g2 := rep 201 upd_same e2
  refine ⟨_, rfl, (by show 1 ≤ sizeLine; decide), fun a3 na3 => ⟨a3, 199, _, rfl, rfl, SqT.of upd_same, (by intro z; cases z), by decide, by decide, (by show 1 ≤ 1000; decide), fun z => absurd z (by decide), fun _ p3 np3 => ?_⟩⟩
  have sa3 := same_new (o := .tup [.ref t1]) na3
  have sp3 := same_new (o := .tup (List.replicate (199 : Int).toNat [V.ref t1]).flatten) np3
  have e3 := e2.same (ban_same (sa3.trans sp3))
  have g3 := rep 199 upd_same e3
  refine ⟨(by show 3 ≤ sizeLine; decide), fun b3 nb3 => ?_⟩
  have sb3 := same_new (o := .tup [.str "loop", .int 0, .ref p3]) nb3
  have g4 := mk_lp held0 nb3 (.int 0) g3
  refine ⟨(by show 1 ≤ sizeLine; decide), fun b4 nb4 => ?_⟩
  have sb4 := same_new (o := .tup [.ref b3]) nb4
  have g5 := mk_one held0 nb4 g4
  refine ⟨_, rfl, (by show 1 ≤ sizeLine; decide), fun a4 na4 => ⟨a4, 200, _, rfl, rfl, SqT.of upd_same, (by intro z; cases z), by decide, by decide, (by show 1 ≤ 1000; decide), fun z => absurd z (by decide), fun _ p4 np4 => ?_⟩⟩
  have sa4 := same_new (o := .tup [.ref t1]) na4
  have sp4 := same_new (o := .tup (List.replicate (200 : Int).toNat [V.ref t1]).flatten) np4
  have e4 := e3.same (ban_same ((sb3.trans sb4).trans (sa4.trans sp4)))
  have g6 := rep 200 upd_same e4
  refine ⟨(by show 3 ≤ sizeLine; decide), fun b5 nb5 => ?_⟩
  have sb5 := same_new (o := .tup [.str "loop", .int 0, .ref p4]) nb5
  have g7 := mk_lp held0 nb5 (.int 0) g6
  refine ⟨(by show 1 ≤ sizeLine; decide), fun b6 nb6 => ?_⟩
  have sb6 := same_new (o := .tup [.ref b5]) nb6
  have g8 := mk_one held0 nb6 g7
  refine ⟨Nat.zero_le _, fun b7 nb7 => ?_⟩
  have sb7 := same_new (o := .tup []) nb7
  have g9 : Dd K (ban [] _) (.ref b7) (.tuple []) := .tup (SqT.of (ban_new held0 nb7)) .nil
  refine ⟨(by show 5 ≤ sizeLine; decide), fun l nl => ?_⟩
  have sl := same_new (o := .lst [.ref p1, .ref p2, .ref b4, .ref b6, .ref b7]) nl
  have nb : ∀ {H' : Hp} {v : V} {d : PyData} {o : HO}, H' l = none → Dd K (ban [] H') v d → Dd K (ban [l] (upd H' l o)) v d := fun {H' v d o} n h => h.same fun x y e => by
    have e' := ban_on _ _ e
    exact ban_at (same_new n _ _ e') (fun m => by rw [List.mem_singleton.mp m, n] at e'; cases e')
  have one := od_op3 (X := 201) (x := "set") (by decide) (i := 0) (j := 0) (by decide) (by decide) (by decide)
  have orep : ∀ k : Nat, k ≤ 201 → Od (5 + k * 5774) 2 201 (.tuple (List.replicate k (.tuple [.str "set", .int 0, .int 0]))) := fun k hk => by
    have := od_tup (N := 5774) (D := 1) (X := 201) (ds := List.replicate k (.tuple [.str "set", .int 0, .int 0])) (fun d m => by rw [List.eq_of_mem_replicate m]; exact one) (by rw [List.length_replicate]; exact hk)
    rw [List.length_replicate] at this
    exact this
  have s76 := sb7
  have s56 := sb5.trans (sb6.trans sb7)
  have s46 := (sa4.trans sp4).trans s56
  have s36 := (sb3.trans sb4).trans s46
  have s26 := (sa3.trans sp3).trans s36
  have s16 := (sa2.trans sp2).trans s26
  have mkE : ∀ {Ha Hz : Hp}, Same Ha Hz → Ed K 5 l Hz → Ed K 5 l Hz := fun _ h => h
  have ed0 := mkE sl ⟨_, [.tuple (List.replicate 200 (.tuple [.str "set", .int 0, .int 0])), .tuple (List.replicate 201 (.tuple [.str "set", .int 0, .int 0])), .tuple [.tuple [.str "loop", .int 0, .tuple (List.replicate 199 (.tuple [.str "set", .int 0, .int 0]))]], .tuple [.tuple [.str "loop", .int 0, .tuple (List.replicate 200 (.tuple [.str "set", .int 0, .int 0]))]], .tuple []], upd_same, .cons (nb nl (g1.same (ban_same s16))) (.cons (nb nl (g2.same (ban_same s26))) (.cons (nb nl (g5.same (ban_same s46))) (.cons (nb nl (g8.same (ban_same sb7))) (.cons (nb nl g9) .nil)))), (fun d m => by
    simp only [List.mem_cons, List.not_mem_nil, or_false] at m
    rcases m with rfl | rfl | rfl | rfl | rfl
    · exact (orep 200 (by decide)).sm (by decide) (by decide) (by decide)
    · exact (orep 201 (by decide)).sm (by decide) (by decide) (by decide)
    · exact (od_one (od_loop (od_i (by decide)) (orep 199 (by decide)) (by decide)) (by decide)).sm (by decide) (by decide) (by decide)
    · exact (od_one (od_loop (od_i (by decide)) (orep 200 (by decide)) (by decide)) (by decide)).sm (by decide) (by decide) (by decide)
    · exact (od_tup (N := 0) (D := 0) (X := 0) (ds := []) (fun d m => nomatch m) (by decide)).sm (by decide) (by decide) (by decide)), Nat.le_refl _⟩
  have s01 : Same H _ := (s1.trans (s2.trans s3)).trans ((sa1.trans sp1).trans s16)
  have d30 := nb (o := .lst [.ref p1, .ref p2, .ref b4, .ref b6, .ref b7]) nl (d3.same (ban_same ((sa1.trans sp1).trans s16)))
  have s02 := s01.trans sl
  -- deeper and deeper
  refine ⟨5, rfl, by decide, by decide, ?_⟩
  refine for_range (lo := 0) (n := 5) (fun i σ H' => ∃ v d y3, σ = [some (.ref t1), some v, some (.ref l), y3, none, none] ∧ Ed K (5 + i) l H' ∧ Dd K (ban [l] H') v d ∧ Od (5779 + i * 3856) (2 + 2 * i) 8 d ∧ Same H H') ⟨.ref t3, _, none, rfl, ed0, d30, od_one (od_op3 (x := "set") (by decide) (i := 0) (j := 1) (by decide) (by decide) (by decide)) (by decide), s02⟩ ?_ ?_
  · rintro i σ H2 hi ⟨v, d, y3, rfl, ed, dd, od, s2⟩
    have hB := ed.held
    refine ⟨10, 18, rfl, rfl, ⟨by decide, by decide, by decide⟩, _, rfl, (by show 3 ≤ sizeLine; decide), fun c1 m1 => ?_⟩
    have z1 := same_new (o := .tup [.str "loop", .int (10 ^ 18), v]) m1
    have x1 := mk_lp hB m1 (.int (10 ^ 18)) dd
    refine ⟨(by show 1 ≤ sizeLine; decide), fun c2 m2 => ?_⟩
    have z2 := same_new (o := .tup [.ref c1]) m2
    have x2 := mk_one (hB.same z1) m2 x1
    have od2 := od_one (od_loop (od_i (i := 10 ^ 18) (by decide)) od (by decide)) (by decide)
    have ed2 := ed.same (z1.trans z2)
    obtain ⟨us, _, hus, _⟩ := id ed2
    refine ⟨_, rfl, .inl ⟨rfl, _, SqL.of hus⟩, _, rfl, nil_app ?_⟩
    refine Ed.push ed2 x2 (od2.sm (by omega) (by omega) (by decide)) (by omega) fun H3 b3 ed3 => ?_
    refine ⟨_, _, _, rfl, ed3, x2.same (ban_but List.mem_cons_self b3), od2.up (by omega) (by omega) (Nat.le_refl _), fun x o e => ?_⟩
    have e1 := (s2.trans (z1.trans z2)) _ _ e
    by_cases cx : x = l
    · subst cx
      have w1 := s01 _ _ e
      rw [nl] at w1
      cases w1
    · exact b3 _ _ cx e1
  rintro σ H2 ⟨v, d, y3, rfl, ed, dd, od, s2⟩
  -- reads and writes
  refine ⟨(by show 2 ≤ sizeLine; decide), fun T nT => ⟨T, rfl, ⟨_, SqT.of upd_same⟩, ?_⟩⟩
  have sT := same_new (o := .tup [.str "read", .str "write"]) nT
  have lH : H l = none := by
    cases hl : H l with
    | none => rfl
    | some o =>
      have w1 := s01 _ _ hl
      rw [nl] at w1
      cases w1
  have keep : ∀ {Ha Hb : Hp}, Same H Ha → But l Ha Hb → Same H Hb := fun sa bb x o e => bb _ _ (fun z => by subst z; rw [lH] at e; cases e) (sa _ _ e)
  have lT : T ≠ l := fun z => by
    subst z
    obtain ⟨_, _, a, _⟩ := ed
    rw [nT] at a
    cases a
  refine for_tup (xs := [.str "read", .str "write"]) (fun i σ H' => ∃ y4, σ = [some (.ref t1), some v, some (.ref l), y3, y4, none] ∧ Ed K (10 + 4 * i) l H' ∧ But l (upd H2 T (.tup [.str "read", .str "write"])) H' ∧ Same H H') ⟨none, rfl, ed.same sT, But.refl _ _, s2.trans sT⟩ ?_ ?_ ?_
  · rintro i σ H' _ ⟨_, _, _, b, _⟩
    exact b.tup lT (SqT.of upd_same)
  · rintro i x σ H3 hx ⟨y4, rfl, ed3, b3, s3⟩
    obtain ⟨z, rfl, hz⟩ : ∃ z : Str, x = .str z ∧ z ∈ oWords := by
      match i, hx with
      | 0, hx => cases hx; exact ⟨"read", rfl, by decide⟩
      | 1, hx => cases hx; exact ⟨"write", rfl, by decide⟩
    have hi : i < 2 := (List.getElem?_eq_some_iff.mp hx).1
    obtain ⟨us3, _, hus3, _⟩ := id ed3
    -- two loops
    refine ⟨_, rfl, .inl ⟨rfl, _, SqL.of hus3⟩, (by show 2 ≤ sizeLine; decide), fun T2 nT2 => ⟨T2, rfl, ⟨_, SqT.of upd_same⟩, fun D nD => ?_⟩⟩
    have sT2 := same_new (o := .tup [.int 2000, .int 2001]) nT2
    have sD := same_new (o := .lst []) nD
    have ed4 := ed3.same (sT2.trans sD)
    have lD : l ≠ D := fun e => by
      subst e
      rw [sT2 _ _ hus3] at nD
      cases nD
    refine lc_tup (xs := [.int 2000, .int 2001]) (fun j H' => ∃ vs es, H' D = some (.lst vs) ∧ DdAll K (ban [l, D] H') vs es ∧ (∀ d ∈ es, Sm d) ∧ vs.length = j ∧ ∀ x o, x ≠ D → (upd (upd H3 T2 (.tup [.int 2000, .int 2001])) D (.lst [])) x = some o → H' x = some o) ⟨[], [], upd_same, .nil, (fun d m => (nomatch m)), rfl, fun x o _ e => e⟩ (fun j H' _ ⟨_, _, _, _, _, _, h⟩ => SqT.of (h _ _ (ne_of_none upd_same nD) (sD _ _ upd_same))) ?_ ?_
    · rintro j x H4 hx ⟨vs, es, f1, f2, f3, f4, f5⟩
      have hj : j < 2 := (List.getElem?_eq_some_iff.mp hx).1
      obtain ⟨k, rfl, hk⟩ : ∃ k : Int, x = .int k ∧ k.natAbs < 2 ^ 1000 := by
        match j, hx with
        | 0, hx => cases hx; exact ⟨2000, rfl, by decide⟩
        | 1, hx => cases hx; exact ⟨2001, rfl, by decide⟩
      have hB4 : Held [l, D] H4 := fun y m => by
        rcases List.mem_cons.mp m with rfl | m
        · exact ⟨_, f5 _ _ lD ((sT2.trans sD) _ _ hus3)⟩
        · rw [List.mem_singleton.mp m]
          exact ⟨_, f1⟩
      refine ⟨rfl, _, rfl, _, rfl, (by show 2 ≤ sizeLine; decide), fun c1 m1 => ⟨(by show 1 ≤ sizeLine; decide), fun c2 m2 => ⟨(by show 3 ≤ sizeLine; decide), fun c3 m3 => ⟨(by show 1 ≤ sizeLine; decide), fun c4 m4 => ?_⟩⟩⟩⟩
      obtain ⟨x2, z2⟩ := mk_wd (K := K) (x := z) hB4 m1 m2
      have x3 := mk_lp (hB4.same z2) m3 (.int k) x2
      have z3 := same_new (o := .tup [.str "loop", .int k, .ref c2]) m3
      have x4 := mk_one (hB4.same (z2.trans z3)) m4 x3
      have z4 := same_new (o := .tup [.ref c3]) m4
      have zz := z2.trans (z3.trans z4)
      have f1' := zz _ _ f1
      refine ⟨_, f1', by rw [f4, sizeLine_eq]; omega, vs ++ [.ref c4], es ++ [.tuple [.tuple [.str "loop", .int k, wd z]]], upd_same, ?_, fun d m => ?_, by rw [List.length_append, f4]; rfl, fun y o ny e => ?_⟩
      · exact ((f2.same (ban_same zz)).append (.cons x4 .nil)).same (ban_but (u := D) (by simp) But.upd)
      · rcases List.mem_append.mp m with m | m
        · exact f3 d m
        · rw [List.mem_singleton.mp m]
          exact (od_one (od_loop (od_i hk) (od_wd hz) (by decide)) (by decide)).sm (by decide) (by decide) (by decide)
      · rw [upd_ne ny]
        exact zz _ _ (f5 _ _ ny e)
    rintro H4 ⟨vs, es, f1, f2, f3, f4, f5⟩
    have s34 : Same H3 H4 := fun y o e => by
      have e1 := sT2 _ _ e
      exact f5 _ _ (ne_of_none e1 nD) (sD _ _ e1)
    refine nil_app ?_
    refine Ed.more (m := 2) (ed3.same s34) f1 (f2.same (ban_sub (fun y m => by rw [List.mem_singleton.mp m]; simp))) f3 (Nat.le_of_eq f4) (by omega) fun H5 b5 ed5 => ?_
    have s5 := keep (s3.trans s34) b5
    have b35 : But l H3 H5 := (But.same s34).trans b5
    obtain ⟨us5, _, hus5, _⟩ := id ed5
    -- forty times fifty
    refine ⟨_, rfl, .inl ⟨rfl, _, SqL.of hus5⟩, _, rfl, (by show 2 ≤ sizeLine; decide), fun c1 m1 => ⟨(by show 1 ≤ sizeLine; decide), fun c2 m2 => ⟨(by show 3 ≤ sizeLine; decide), fun c3 m3 => ⟨(by show 1 ≤ sizeLine; decide), fun c4 m4 => ⟨(by show 3 ≤ sizeLine; decide), fun c5 m5 => ⟨_, rfl, (by show 2 ≤ sizeLine; decide), fun c6 m6 => ⟨(by show 2 ≤ sizeLine; decide), fun c7 m7 => ?_⟩⟩⟩⟩⟩⟩⟩
    have hB5 := ed5.held
    obtain ⟨x2, z2⟩ := mk_wd (K := K) (x := z) hB5 m1 m2
    have x3 := mk_lp (hB5.same z2) m3 (.int 50) x2
    have z3 := z2.trans (same_new (o := .tup [.str "loop", .int 50, .ref c2]) m3)
    have x4 := mk_one (hB5.same z3) m4 x3
    have z4 := z3.trans (same_new (o := .tup [.ref c3]) m4)
    have x5 := mk_lp (hB5.same z4) m5 (.int 40) x4
    have z5 := z4.trans (same_new (o := .tup [.str "loop", .int 40, .ref c4]) m5)
    have z6' := same_new (o := .tup [.str z, .int 0]) m6
    have x6 : Dd K (ban [l] _) (.ref c6) (.tuple [.str z, .int 0]) := .tup (SqT.of (ban_new (hB5.same z5) m6)) (.cons (.str _) (.cons (.int _) .nil))
    have z6 := z5.trans z6'
    have x7 := mk_two (hB5.same z6) m7 (x5.same (ban_same z6')) x6
    have z7 := z6.trans (same_new (o := .tup [.ref c5, .ref c6]) m7)
    have o5 := (od_loop (od_i (i := 40) (by decide)) (od_one (od_loop (od_i (i := 50) (by decide)) (od_wd hz) (by decide)) (by decide)) (by decide)).up (N' := 20000) (D' := 10) (X' := 8) (by decide) (by decide) (by decide)
    have o6 := (od_op2 (X := 8) hz (i := 0) (by decide) (by decide)).up (N' := 20000) (D' := 10) (X' := 8) (by decide) (by decide) (by decide)
    have o7 := od_tup (N := 20000) (D := 10) (X := 8) (ds := [_, _]) (fun d m => by
      simp only [List.mem_cons, List.not_mem_nil, or_false] at m
      rcases m with rfl | rfl
      · exact o5
      · exact o6) (by show 2 ≤ 8; decide)
    refine nil_app ?_
    refine Ed.push (ed5.same z7) x7 (o7.sm (by show 5 + 2 * 20000 ≤ _; decide) (by decide) (by decide)) (by omega) fun H6 b6 ed6 => ?_
    have s6 := keep (s5.trans z7) b6
    have b36 : But l H3 H6 := b35.trans ((But.same z7).trans b6)
    obtain ⟨us6, _, hus6, _⟩ := id ed6
    -- no round at all
    refine ⟨_, rfl, .inl ⟨rfl, _, SqL.of hus6⟩, 10, 18, rfl, rfl, ⟨by decide, by decide, by decide⟩, _, rfl, (by show 2 ≤ sizeLine; decide), fun c1 m1 => ⟨(by show 1 ≤ sizeLine; decide), fun c2 m2 => ⟨(by show 3 ≤ sizeLine; decide), fun c3 m3 => ⟨(by show 1 ≤ sizeLine; decide), fun c4 m4 => ⟨(by show 3 ≤ sizeLine; decide), fun c5 m5 => ⟨(by show 1 ≤ sizeLine; decide), fun c6 m6 => ?_⟩⟩⟩⟩⟩⟩
    have hB6 := ed6.held
    obtain ⟨w2, y2⟩ := mk_wd (K := K) (x := z) hB6 m1 m2
    have w3 := mk_lp (hB6.same y2) m3 (.int 0) w2
    have y3 := y2.trans (same_new (o := .tup [.str "loop", .int 0, .ref c2]) m3)
    have w4 := mk_one (hB6.same y3) m4 w3
    have y4 := y3.trans (same_new (o := .tup [.ref c3]) m4)
    have w5 := mk_lp (hB6.same y4) m5 (.int (10 ^ 18)) w4
    have y5 := y4.trans (same_new (o := .tup [.str "loop", .int (10 ^ 18), .ref c4]) m5)
    have w6 := mk_one (hB6.same y5) m6 w5
    have y6 := y5.trans (same_new (o := .tup [.ref c5]) m6)
    have oo := od_one (od_loop (od_i (i := 10 ^ 18) (by decide)) (od_one (od_loop (od_i (i := 0) (by decide)) (od_wd hz) (by decide)) (by decide)) (by decide)) (by decide)
    refine nil_app ?_
    refine Ed.push (ed6.same y6) w6 (oo.sm (by decide) (by decide) (by decide)) (by omega) fun H7 b7 ed7 => ?_
    have s7 := keep (s6.trans y6) b7
    refine ⟨_, rfl, ?_, b3.trans (b36.trans ((But.same y6).trans b7)), s7⟩
    rw [show 10 + 4 * (i + 1) = 10 + 4 * i + 2 + 1 + 1 by omega]
    exact ed7
  · rintro σ H3 ⟨y4, rfl, ed3, b3, s3⟩
    obtain ⟨us3, ds3, hus3, dd3, sm3, le3⟩ := ed3
    refine ⟨_, rfl, 1, rfl, 10, 18, rfl, rfl, ⟨by decide, by decide, by decide⟩, 10, 18, rfl, rfl, ⟨by decide, by decide, by decide⟩, _, _, rfl, rfl, (by show 5 ≤ sizeLine; decide), fun T2 nT2 => ⟨T2, rfl, ⟨_, SqT.of upd_same⟩, fun D nD => ?_⟩⟩
    have sT2 := same_new (o := .tup [.int (-1), .int 0, .int (10 ^ 18), .int (10 ^ 18 + 1), .bl true]) nT2
    have sD := same_new (o := .lst []) nD
    have cds : ∀ {H' : Hp}, DdAll K H' [.int (-1), .int 0, .int (10 ^ 18), .int (10 ^ 18 + 1), .bl true] [.int (-1), .int 0, .int (10 ^ 18), .int (10 ^ 18 + 1), .bool true] := .cons (.int _) (.cons (.int _) (.cons (.int _) (.cons (.int _) (.cons (.bl _) .nil))))
    have ods : ∀ d ∈ [PyData.int (-1), .int 0, .int (10 ^ 18), .int (10 ^ 18 + 1), .bool true], Od 1923 0 8 d := fun d m => by
      simp only [List.mem_cons, List.not_mem_nil, or_false] at m
      rcases m with rfl | rfl | rfl | rfl | rfl
      · exact od_i (by decide)
      · exact od_i (by decide)
      · exact od_i (by decide)
      · exact od_i (by decide)
      · exact od_leaf (leaf_bool _) fun ds => ⟨fun e => PyData.noConfusion e, fun e => PyData.noConfusion e⟩
    refine lc_tup (xs := [.int (-1), .int 0, .int (10 ^ 18), .int (10 ^ 18 + 1), .bl true]) (fun j H' => ∃ vs es, H' D = some (.lst vs) ∧ DdAll K (ban [D] H') vs es ∧ (∀ d ∈ es, Sm d) ∧ vs.length = j ∧ ∀ x o, x ≠ D → (upd (upd H3 T2 (.tup [.int (-1), .int 0, .int (10 ^ 18), .int (10 ^ 18 + 1), .bl true])) D (.lst [])) x = some o → H' x = some o) ⟨[], [], upd_same, .nil, (fun d m => (nomatch m)), rfl, fun x o _ e => e⟩ (fun j H' _ ⟨_, _, _, _, _, _, h⟩ => SqT.of (h _ _ (ne_of_none upd_same nD) (sD _ _ upd_same))) ?_ ?_
    · rintro j x H4 hx ⟨vs, es, f1, f2, f3, f4, f5⟩
      have hj : j < 5 := (List.getElem?_eq_some_iff.mp hx).1
      have hB4 : Held [D] H4 := fun y m => by
        rw [List.mem_singleton.mp m]
        exact ⟨_, f1⟩
      obtain ⟨kd, hkd, dk⟩ := (cds (H' := ban [D] H4)).get hx
      have ok := ods kd (List.mem_of_getElem? hkd)
      refine ⟨rfl, _, rfl, Nat.zero_le _, fun c1 m1 => ⟨(by show 3 ≤ sizeLine; decide), fun c3 m3 => ⟨(by show 1 ≤ sizeLine; decide), fun c4 m4 => ?_⟩⟩⟩
      have z1 := same_new (o := .tup []) m1
      have x1 : Dd K (ban [D] _) (.ref c1) (.tuple []) := .tup (SqT.of (ban_new hB4 m1)) .nil
      have x3 := mk_lp (hB4.same z1) m3 (dk.same (ban_same z1)) x1
      have z3 := z1.trans (same_new (o := .tup [.str "loop", x, .ref c1]) m3)
      have x4 := mk_one (hB4.same z3) m4 x3
      have zz := z3.trans (same_new (o := .tup [.ref c3]) m4)
      have f1' := zz _ _ f1
      have o0 : Od 5 1 8 (.tuple []) := (od_tup (N := 0) (D := 0) (X := 8) (ds := []) (fun d m => nomatch m) (by decide)).up (by decide) (by decide) (by decide)
      refine ⟨_, f1', by rw [f4, sizeLine_eq]; omega, vs ++ [.ref c4], es ++ [.tuple [.tuple [.str "loop", kd, .tuple []]]], upd_same, ?_, fun d m => ?_, by rw [List.length_append, f4]; rfl, fun y o ny e => ?_⟩
      · exact ((f2.same (ban_same zz)).append (.cons x4 .nil)).same (ban_but (u := D) (by simp) But.upd)
      · rcases List.mem_append.mp m with m | m
        · exact f3 d m
        · rw [List.mem_singleton.mp m]
          exact (od_one (od_loop ok o0 (by decide)) (by decide)).sm (by decide) (by decide) (by decide)
      · rw [upd_ne ny]
        exact zz _ _ (f5 _ _ ny e)
    rintro H4 ⟨vs, es, f1, f2, f3, f4, f5⟩
    have s34 : Same H3 H4 := fun y o e => by
      have e1 := sT2 _ _ e
      exact f5 _ _ (ne_of_none e1 nD) (sD _ _ e1)
    have le3 : us3.length ≤ 18 := le3
    have f4 : vs.length = 5 := f4
    refine ⟨l, D, us3, vs, rfl, rfl, s34 _ _ hus3, f1, by rw [sizeLine_eq]; omega, fun R nR => ?_⟩
    have sR := same_new (o := .lst (us3 ++ vs)) nR
    refine q R (us3 ++ vs) (ds3 ++ es) _ ((s3.trans s34).trans sR) upd_same (((dd3.same ban_on).same (s34.trans sR)).append ((f2.same ban_on).same sR)) (fun d m => ?_) (by rw [List.length_append]; omega)
    rcases List.mem_append.mp m with m | m
    · exact sm3 d m
    · exact f3 d m
end
end K05
set_option Elab.async false
set_option pp.maxSteps 500
set_option pp.deepTerms.threshold 8
set_option pp.deepTerms false
set_option linter.all false
set_option maxRecDepth 100000
namespace K05
open PySem PySem.Spec PyProof.Rows L2 Lj
section
variable {P : Program} {w : World} {K : PySem.W.Frag} {mg : Str → Option Value} {base : Heap}
theorem ok_urn {f : Addr} {fd : FuncData} {k : Nat} (F : Fun K "_law_urn" "_law_urn" sUrn f fd) (ml : mg "len" = none) (ma : mg "abs" = none) (mi : mg "int" = none) :
    FnOk P w K mg base CX0 (k + 1) f fd ["_law_script", "_law_k"] (spUrn K) := by
  refine F.ok scUrn (fun vs H Q E h => ?_) (fun cdv A outer s H vs Q E hr h => ?_)
  · obtain ⟨a, ns, k, rfl, _⟩ := h
    rfl
  obtain ⟨a, ns, k, rfl, hS, h0, h1, q⟩ := h
  refine ⟨_, Evl.pss_cut (ps_set (i := 2) scUrn.nd rfl (.inl rfl) (pe_ifExp (pt_cmpR op_lt (pv 1) (pe_callB call_len_seq (by rfl) ml PySem.boot_len (pa_cons (pv 0) pa_nil)) (nomark _)) (pe_ix ix_list (pv 0) (pv 1) (fun _ _ => rfl)) (pe_op op_add (pe_op op_mul pe_int (pv 1)) pe_int)))
    (pss_cons (ps_set (i := 3) scUrn.nd rfl (.inl rfl) (pe_op op_mul (pe_op op_mod (pe_callB call_abs (by rfl) ma (by decide +kernel) (pa_cons (pv 2) pa_nil)) (pe_callTy call_int_str (by rfl) mi (by decide +kernel) (pa_cons (pe_op op_add_str pe_str (pe_op op_mulS pe_str pe_int)) pa_nil)))
       (pe_callTy call_int1 (by rfl) mi (by decide +kernel) (pa_cons (pe_cmpR op_ge (pe_callB call_abs (by rfl) ma (by decide +kernel) (pa_cons (pv 2) pa_nil)) (pe_op op_pow pe_int pe_int) (nomark _)) pa_nil))))
    (pss_one (ps_ret (pe_lst (pa_cons (pv 3) (pa_cons (pe_op op_mod (pe_op op_mul (pe_op op_add (pe_op op_add (pe_op op_mod (pv 2) pe_int) (pe_op op_mul (pe_op op_mul pe_int (pv 1)) (pv 1))) pe_int) pe_int) pe_int) pa_nil)))))), ?_⟩
  refine ⟨fun σ H' => ∃ c : Int, σ = [some (.ref a), some (.int k), some (.int c), none] ∧ H' = H, ?_, ?_⟩
  · refine ⟨_, rfl, _, rfl, a, _, rfl, .inl hS, _, _, rfl, rfl, _, rfl, ite2 (fun c => ?_) (fun c => ?_)⟩
    · have c' : k < (((ns.map V.int).length : Nat) : Int) := of_decide_eq_true c
      rw [List.length_map] at c'
      obtain ⟨v, _, hv⟩ := at_int (ns := ns) h0 c'
      exact ⟨_, rfl, _, rfl, a, _, _, _, rfl, rfl, hS, hv, v, rfl, rfl⟩
    · exact ⟨_, rfl, 3, k, rfl, rfl, .inl ⟨by decide, by decide⟩, _, _, rfl, rfl, _, rfl, rfl⟩
  · rintro σ' H' ⟨c, rfl, rfl⟩
    refine ⟨_, rfl, c, rfl, _, _, rfl, rfl, mul_ok0, _, _, rfl, rfl, (by decide +kernel), _, _, rfl, urnText_int, urnText_len, _, _, rfl, rfl, (by show (0 : Int) < 10 ^ 300; decide +kernel), _, rfl, c, rfl, 10, 18, rfl, rfl, ⟨by decide, by decide, by decide⟩, _, _, rfl, rfl, .inr ⟨_, rfl, _, _, rfl, rfl, .inr ?_, ?_⟩⟩
    · exact ind_bd _
    obtain ⟨o1, o2⟩ := own_lt c (decide (10 ^ (18 : Int).toNat ≤ if c < 0 then -c else c))
    refine ⟨_, rfl, _, rfl, c, _, rfl, rfl, (by show (0 : Int) < 2305843009213693951; decide), _, rfl, 7919, k, rfl, rfl, .inl ⟨by decide, by decide⟩, _, rfl, _, k, rfl, rfl, .inl ⟨by omega, by omega⟩, _, _, rfl, rfl, _, _, rfl, rfl, _, _, rfl, rfl, .inr ⟨by decide, by decide⟩, _, _, rfl, rfl, (by show (0 : Int) < 2305843009213693951; decide), (by show 2 ≤ sizeLine; decide), fun p np => ?_⟩
    exact q _ p (same_new np) np ⟨_, _, upd_same, o1, o2, Int.emod_nonneg _ (by decide), Int.emod_lt_of_pos _ (by decide)⟩
theorem ok_take {f : Addr} {fd : FuncData} {k : Nat} (F : Fun K "_law_take" "_law_take" sTake f fd) :
    FnOk P w K mg base CX0 (k + 1) f fd ["_law_urn_here", "_law_below"] spTake := by
  refine F.ok scTake (fun vs H Q E h => ?_) (fun cdv A outer s H vs Q E hr h => ?_)
  · obtain ⟨p, n, rfl, _⟩ := h
    rfl
  obtain ⟨p, n, rfl, ⟨u, v, hp, u0, u1, v0, v1⟩, n0, n1, q⟩ := h
  refine ⟨_, pss_cons (ps_if (pt_cmpR op_gt (pe_ix ix_list (pv 0) pe_int (fun _ _ => rfl)) pe_int (nomark _))
      (pss_cons (ps_set (i := 2) scTake.nd rfl (.inl rfl) (pe_op op_mod (pe_ix ix_list (pv 0) pe_int (fun _ _ => rfl)) (pv 1)))
      (pss_cons (ps_asg (pe_op op_fdivW (pe_ix ix_list (pv 0) pe_int (fun _ _ => rfl)) (pv 1)) (pg_sub (pv 0) pe_int set_list))
      (pss_one (ps_ret (pv 2))))) pss_nil)
    (pss_cons (ps_asg (pe_op op_mod (pe_op op_add (pe_op op_mul (pe_ix ix_list (pv 0) pe_int (fun _ _ => rfl)) pe_int) pe_int) pe_int) (pg_sub (pv 0) pe_int set_list))
    (pss_cons (ps_set (i := 3) scTake.nd rfl (.inl rfl) (pe_op op_mod (pe_op op_mul (pe_op op_fdiv (pe_ix ix_list (pv 0) pe_int (fun _ _ => rfl)) pe_int) (pe_op op_add (pe_op op_mod (pe_ix ix_list (pv 0) pe_int (fun _ _ => rfl)) pe_int) pe_int)) pe_int))
    (Evl.pss_cut (ps_if (pt_cmpR op_gt (pv 1) (pe_op op_pow pe_int pe_int) (nomark _))
      (pss_cons (ps_asg (pe_op op_mod (pe_op op_add (pe_op op_mul (pe_ix ix_list (pv 0) pe_int (fun _ _ => rfl)) pe_int) pe_int) pe_int) (pg_sub (pv 0) pe_int set_list))
      (pss_one (ps_set (i := 3) scTake.nd rfl (.inl rfl) (pe_op op_add (pe_op op_mul (pv 3) pe_int) (pe_ix ix_list (pv 0) pe_int (fun _ _ => rfl)))))) pss_nil)
    (pss_one (ps_ret (pe_op op_mod (pe_op op_fdiv (pv 3) pe_int) (pv 1))))))), ?_⟩
  refine ⟨_, rfl, p, _, 0, .int u, rfl, rfl, SqL.of hp, rfl, _, _, rfl, rfl, _, rfl, ite2 (fun c => ?_) (fun c => ?_)⟩
  · have c' : 0 < u := of_decide_eq_true c
    refine ⟨_, rfl, p, _, 0, .int u, rfl, rfl, SqL.of hp, rfl, _, rfl, u, n, rfl, rfl, n0, ?_⟩
    refine ⟨_, rfl, p, _, 0, .int u, rfl, rfl, SqL.of hp, rfl, _, rfl, u, n, rfl, rfl, wide_div (b := 1000) n0 n1 (by decide) (by decide), _, rfl, p, _, 0, 0, rfl, rfl, hp, rfl, _, rfl, ?_⟩
    refine q _ _ (Int.emod_nonneg _ (by omega)) (Int.emod_lt_of_pos _ n0) ⟨_, v, upd_same, ?_, ?_, v0, v1⟩ But.upd
    · exact Int.ediv_nonneg (by omega) (by omega)
    · have h1 : 0 ≤ u / n := Int.ediv_nonneg (by omega) (by omega)
      have h2 : u / n ≤ u := Int.ediv_le_self _ (by omega)
      omega
  · refine ⟨_, rfl, p, _, 1, .int v, rfl, rfl, SqL.of hp, rfl, v, _, rfl, rfl, .inl ⟨by omega, by omega⟩, _, _, rfl, rfl, _, _, rfl, rfl, (by show (0 : Int) < 2305843009213693951; decide), _, rfl, p, _, 1, 1, rfl, rfl, hp, rfl, ?_⟩
    have w0 := nx0 v
    have w1 := nx1 v
    have hx : (upd H p (.lst [.int u, .int (nx v)])) p = some (.lst [.int u, .int (nx v)]) := upd_same
    refine ⟨_, rfl, p, _, 1, .int (nx v), rfl, rfl, SqL.of hx, rfl, nx v, _, rfl, rfl, ⟨by decide, by decide⟩, _, rfl, p, _, 1, .int (nx v), rfl, rfl, SqL.of hx, rfl, nx v, _, rfl, rfl, (by show (0 : Int) < 65537; decide), _, _, rfl, rfl, _, _, rfl, rfl, .inr ⟨by omega, by omega⟩, _, _, rfl, rfl, (by show (0 : Int) < 2305843009213693921; decide), ?_⟩
    refine ⟨fun σ H' => ∃ m y : Int, σ = [some (.ref p), some (.int n), none, some (.int m)] ∧ H' = upd H p (.lst [.int u, .int y]) ∧ 0 ≤ y ∧ y < 2305843009213693951, ?_, ?_⟩
    · refine ⟨_, rfl, 10, 9, rfl, rfl, ⟨by decide, by decide, by decide⟩, _, _, rfl, rfl, _, rfl, ite2 (fun c => ?_) (fun c => ?_)⟩
      · refine ⟨_, rfl, p, _, 1, .int (nx v), rfl, rfl, SqL.of hx, rfl, nx v, _, rfl, rfl, .inl ⟨by omega, by omega⟩, _, _, rfl, rfl, _, _, rfl, rfl, (by show (0 : Int) < 2305843009213693951; decide), _, rfl, p, _, 1, 1, rfl, rfl, hx, rfl, ?_⟩
        have hy : (upd (upd H p (.lst [.int u, .int (nx v)])) p (.lst [.int u, .int (ny (nx v))])) p = some (.lst [.int u, .int (ny (nx v))]) := upd_same
        refine ⟨_, rfl, _, _, rfl, rfl, .inr ⟨by decide, by decide⟩, _, rfl, p, _, 1, .int (ny (nx v)), rfl, rfl, SqL.of hy, rfl, _, _, rfl, rfl, ?_⟩
        exact ⟨_, ny (nx v), rfl, upd_upd, ny0 _, ny1 _⟩
      · exact ⟨_, nx v, rfl, rfl, w0, w1⟩
    · rintro σ' H' ⟨m, y, rfl, rfl, y0, y1⟩
      refine ⟨_, rfl, m, 97, rfl, rfl, ⟨by decide, by decide⟩, _, rfl, _, n, rfl, rfl, n0, ?_⟩
      exact q _ _ (Int.emod_nonneg _ (by omega)) (Int.emod_lt_of_pos _ n0) ⟨u, y, upd_same, u0, u1, y0, y1⟩ But.upd
theorem ok_of {f fT : Addr} {fd fdT : FuncData} {k : Nat} (F : Fun K "_law_of" "_law_of" sOf f fd) (FT : Fun K "_law_take" "_law_take" sTake fT fdT) (bT : Binds K fdT ["_law_urn_here", "_law_below"] []) (gT : mg "_law_take" = some (.ref fT)) (ml : mg "len" = none) :
    FnOk P w K mg base CX0 (k + 2) f fd ["_law_urn_here", "_law_items"] (spOf K) := by
  have GT : FnOk P w K mg base CX0 (k + 1) fT fdT ["_law_urn_here", "_law_below"] spTake := ok_take FT
  refine F.ok scOf (fun vs H Q E h => ?_) (fun cdv A outer s H vs Q E hr h => ?_)
  · obtain ⟨p, r, xs, rfl, _⟩ := h
    rfl
  obtain ⟨p, r, xs, rfl, hU, nr, hr2, hx, hl, q⟩ := h
  refine ⟨_, pss_one (ps_ret (pe_ix ix_list (pv 1) (pe_call GT hr (by rfl) gT FT.kp bT .nil pass0 (pa_cons (pv 0) (pa_cons (pe_callB call_len_seq (by rfl) ml PySem.boot_len (pa_cons (pv 1) pa_nil)) pa_nil))) (fun _ _ => rfl))), ?_⟩
  have l0 : 0 < xs.length := List.length_pos_iff.mpr hx
  have l1 : (1000 : Nat) < wide := by decide +kernel
  refine ⟨_, rfl, _, rfl, _, rfl, r, xs, rfl, .inl hr2, p, _, rfl, hU, by omega, by omega, fun d H' d0 d1 hU' hb => ?_⟩
  obtain ⟨x, mx, hx2⟩ := at_any (xs := xs) d0 d1
  exact ⟨r, xs, d, x, rfl, rfl, hb.seq nr hr2, hx2, q x H' mx hU' hb⟩
end
section
variable {P : Program} {w : World} {K : PySem.W.Frag} {mg : Str → Option Value} {base : Heap}
theorem has_urn (M : Bl mg) (F : At K mg "_law_urn" sUrn ["_law_script", "_law_k"]) : Has P w K mg base 1 "_law_urn" ["_law_script", "_law_k"] (spUrn K) := by
  obtain ⟨f, fd, F, b, g⟩ := F
  exact ⟨f, fd, .of (ok_urn F M.len_ M.abs_ M.int_), F.kp, b, g, fun_lk F⟩
theorem has_take (F : At K mg "_law_take" sTake ["_law_urn_here", "_law_below"]) : Has P w K mg base 1 "_law_take" ["_law_urn_here", "_law_below"] spTake := by
  obtain ⟨f, fd, F, b, g⟩ := F
  exact ⟨f, fd, .of (ok_take F), F.kp, b, g, fun_lk F⟩
theorem has_of (M : Bl mg) (F : At K mg "_law_of" sOf ["_law_urn_here", "_law_items"]) (FT : At K mg "_law_take" sTake ["_law_urn_here", "_law_below"]) : Has P w K mg base 2 "_law_of" ["_law_urn_here", "_law_items"] (spOf K) := by
  obtain ⟨f, fd, F, b, g⟩ := F
  obtain ⟨f2, fd2, F2, b2, g2⟩ := FT
  exact ⟨f, fd, .of (ok_of F F2 b2 g2 M.len_), F.kp, b, g, fun_lk F⟩
theorem ok_prime (F : At K mg "_law_prime" sPrime ["_law_urn_here"]) {k : Nat} (h : Has P w K mg base k "_law_of" ["_law_urn_here", "_law_items"] (spOf K)) : Has P w K mg base (k + 1) "_law_prime" ["_law_urn_here"] spPrimeU := by
  obtain ⟨_, _, cOf⟩ := h
  refine Has.by F scPrime (fun vs H Q E h => ?_) (fun f cdv A out s H vs Q E hg hr h => ?_)
  · obtain ⟨p, rfl, _⟩ := h
    rfl
  obtain ⟨p, rfl, hU, q⟩ := h
  refine ⟨_, (pss_one (ps_ret (pe_cal cOf hg hr (by rfl) (pa_cons (pv 0) (pa_cons (pe_lst (pa_cons pe_int (pa_cons pe_int (pa_cons pe_int (pa_cons pe_int (pa_cons pe_int (pa_cons pe_int (pa_cons pe_int (pa_cons pe_int (pa_cons pe_int (pa_cons pe_int (pa_cons pe_int (pa_cons pe_int (pa_cons pe_int pa_nil)))))))))))))) pa_nil))))), ?_⟩
  refine ⟨_, rfl, (by show 13 ≤ sizeLine; decide), fun l nl => ?_⟩
  refine ⟨p, l, _, rfl, hU.same (same_new nl), hU.ne nl, SqL.of upd_same, (by intro z; cases z), (by show 13 ≤ 1000; decide), fun x H' hx hU' hb => ?_⟩
  have hx2 : x ∈ prs.map V.int := hx
  obtain ⟨z, hz, rfl⟩ := List.mem_map.mp hx2
  exact q z H' hz hU' (But.trans (But.new nl) hb)
theorem ok_words (F : At K mg "_law_words" sWords []) : Has P w K mg base 1 "_law_words" [] spWords := by
  refine Has.by F scWords (fun vs H Q E h => ?_) (fun f cdv A out s H vs Q E hg hr h => ?_)
  · obtain ⟨rfl, _⟩ := h
    rfl
  obtain ⟨rfl, q⟩ := h
  exact ⟨_, (pss_one (ps_ret (pe_lst (pa_cons pe_str (pa_cons pe_str (pa_cons pe_str (pa_cons pe_str (pa_cons pe_str (pa_cons pe_str (pa_cons pe_str (pa_cons pe_str (pa_cons pe_str pa_nil)))))))))))), (by show 9 ≤ sizeLine; decide), fun l nl => q l nl⟩
theorem tup_op {H : Hp} {t : Addr} {u : Str} {as : List Int} (n : H t = none) : TrAt K (upd H t (.tup (.str u :: as.map V.int))) (.op u as) (.ref t) := by
  rw [TrAt]
  exact ⟨t, rfl, SqT.of upd_same⟩
theorem ok_item (M : Bl mg) (F : At K mg "_law_item" sItem ["_law_urn_here", "_law_q", "_law_wide", "_law_words_here"]) {k : Nat} (h : Has P w K mg base k "_law_of" ["_law_urn_here", "_law_items"] (spOf K)) (h2 : Has P w K mg base k "_law_take" ["_law_urn_here", "_law_below"] spTake) :
    Has P w K mg base (k + 1) "_law_item" ["_law_urn_here", "_law_q", "_law_wide", "_law_words_here"] (spItem K) := by
  obtain ⟨_, _, cOf⟩ := h
  obtain ⟨_, _, cTake⟩ := h2
  refine Has.by F scItem (fun vs H Q E h => ?_) (fun f cdv A out s H vs Q E hg hr h => ?_)
  · obtain ⟨_, _, _, _, _, rfl, _⟩ := h
    rfl
  obtain ⟨u, ws, p, n, wl, rfl, hU, p0, p1, n0, n1, nw, sq, wne, wle, w7, q⟩ := h
  refine ⟨_, (pss_cons (ps_set (i := 4) scItem.nd rfl (.inl rfl) (pe_cal cOf hg hr (by rfl) (pa_cons (pv 0) (pa_cons (pv 3) pa_nil))))
  (pss_cons (ps_par (i := 5) (j := 6) (by rfl) scItem.nd rfl rfl (by decide) rfl rfl (pa_cons (pe_cal cTake hg hr (by rfl) (pa_cons (pv 0) (pa_cons (pv 2) pa_nil))) (pa_cons (pe_cal cOf hg hr (by rfl) (pa_cons (pv 0) (pa_cons (pe_lst (pa_cons pe_int (pa_cons (pe_op op_mod pe_int (pv 1)) (pa_cons (pe_op op_sub (pv 1) pe_int) (pa_cons (pe_cal cTake hg hr (by rfl) (pa_cons (pv 0) (pa_cons (pv 1) pa_nil))) pa_nil))))) pa_nil))) pa_nil)) (by rfl))
  (pss_cons (ps_if (pt_cmpR op_in_seq (pv 4) (pe_tup (pa_cons pe_str (pa_cons pe_str pa_nil))) (by rfl))
    (pss_one (ps_ret (pe_tup (pa_cons (pv 4) (pa_cons (pv 5) (pa_cons (pv 6) pa_nil))))))
    pss_nil)
  (pss_cons (ps_if (pt_cmpR op_in_seq (pv 4) (pe_tup (pa_cons pe_str (pa_cons pe_str pa_nil))) (by rfl))
    (pss_one (ps_ret (pe_tup (pa_cons (pv 4) (pa_cons (pv 5) pa_nil)))))
    pss_nil)
  (pss_cons (ps_if (pt_cmpR op_eq (pv 2) pe_int (nomark _))
    (pss_one (ps_ret (pe_tup (pa_cons pe_str (pa_cons pe_int (pa_cons (pv 6) pa_nil))))))
    pss_nil)
  (pss_cons (ps_set (i := 7) scItem.nd rfl (.inl rfl) (pe_op op_mod (pe_op op_add (pe_op op_add (pv 5) pe_int) (pe_cal cTake hg hr (by rfl) (pa_cons (pv 0) (pa_cons (pe_op op_sub (pv 2) pe_int) pa_nil)))) (pv 2)))
  (pss_cons (ps_if (pt_cmpR op_eq (pv 4) pe_str (nomark _))
    (pss_one (ps_ret (pe_tup (pa_cons (pv 4) (pa_cons (pv 5) (pa_cons (pv 7) (pa_cons (pe_ifExp (pt_cmpR op_gt (pv 1) pe_int (nomark _)) (pe_op op_add pe_int (pe_op op_mod (pv 6) (pe_op op_sub (pv 1) pe_int))) pe_int) pa_nil)))))))
    pss_nil)
  (pss_one (ps_ret (pe_tup (pa_cons (pv 4) (pa_cons (pv 5) (pa_cons (pv 7) pa_nil))))))))))))), ?_⟩
  -- the word
  refine ⟨_, rfl, _, rfl, u, ws, _, rfl, hU, nw, sq, (by simpa using wne), (by rw [List.length_map]; exact wle), fun x H1 hx u1 b1 => ?_⟩
  obtain ⟨z, hz, rfl⟩ := List.mem_map.mp hx
  -- x and c
  refine ⟨_, rfl, _, rfl, u, n, rfl, u1, by omega, wide_big (by omega) (by omega), fun x H2 x0 x1 u2 b2 => ?_⟩
  refine ⟨_, rfl, _, rfl, 1, p, rfl, rfl, (by show (0 : Int) < p; omega), _, rfl, p, 1, rfl, rfl, _, rfl, _, rfl, u, p, rfl, u2, by omega, wide_big (by omega) (by omega), fun c3 H3 c30 c31 u3 b3 => ?_⟩
  refine ⟨(by show 4 ≤ sizeLine; decide), fun l nl => ?_⟩
  refine ⟨u, l, _, rfl, u3.same (same_new nl), u3.ne nl, SqL.of upd_same, (by intro z; cases z), (by show 4 ≤ 1000; decide), fun c H4 hc u4 b4 => ?_⟩
  have bb : But u H H4 := ((b1.trans b2).trans b3).trans ((But.new nl).trans b4)
  obtain ⟨c, rfl, c0, c1⟩ : ∃ c' : Int, c = .int c' ∧ 0 ≤ c' ∧ c' < p := by
    have m0 := Int.emod_nonneg 1 (show p ≠ 0 by omega)
    have m1 := Int.emod_lt_of_pos 1 (show 0 < p by omega)
    simp only [List.mem_cons, List.not_mem_nil, or_false] at hc
    rcases hc with rfl | rfl | rfl | rfl
    · exact ⟨0, rfl, by omega, by omega⟩
    · exact ⟨1 % p, rfl, m0, m1⟩
    · exact ⟨p - 1, rfl, by omega, by omega⟩
    · exact ⟨c3, rfl, c30, c31⟩
  refine ⟨_, _, rfl, ?_⟩
  -- set, scale
  refine ⟨_, rfl, (by show 2 ≤ sizeLine; decide), fun t1 nt1 => ?_⟩
  refine ⟨t1, _, rfl, .inr (SqT.of upd_same), rfl, rfl, _, rfl, ite2 (fun i1 => ?_) (fun i1 => ?_)⟩
  · have e := inV2.mp i1
    refine ⟨_, rfl, _, rfl, _, rfl, (by show 3 ≤ sizeLine; decide), fun t nt => ?_⟩
    exact q z [x, c] _ _ (.inl ⟨e, x, c, rfl, x0, x1, c0, c1⟩) (.inl hz) (tup_op (as := [x, c]) nt) ((u4.same (same_new nt1)).same (same_new nt)) (bb.trans ((But.new nt1).trans (But.new nt)))
  -- read, write
  refine ⟨_, rfl, (by show 2 ≤ sizeLine; decide), fun t2 nt2 => ?_⟩
  have u6 := (u4.same (same_new (o := .tup [.str "set", .str "scale"]) nt1)).same (same_new (o := .tup [.str "read", .str "write"]) nt2)
  have b6 : But u H _ := bb.trans ((But.new (o := .tup [.str "set", .str "scale"]) nt1).trans (But.new (o := .tup [.str "read", .str "write"]) nt2))
  refine ⟨t2, _, rfl, .inr (SqT.of upd_same), rfl, rfl, _, rfl, ite2 (fun i2 => ?_) (fun i2 => ?_)⟩
  · have e := inV2.mp i2
    refine ⟨_, rfl, _, rfl, (by show 2 ≤ sizeLine; decide), fun t nt => ?_⟩
    exact q z [x] _ _ (.inr (.inl ⟨e, x, rfl, x0, x1⟩)) (.inl hz) (tup_op (as := [x]) nt) (u6.same (same_new nt)) (b6.trans (But.new nt))
  have z1 : ¬ (z = "set" ∨ z = "scale") := fun e => i1 (inV2.mpr e)
  have z2 : ¬ (z = "read" ∨ z = "write") := fun e => i2 (inV2.mpr e)
  -- one register
  refine ⟨_, rfl, rfl, _, rfl, ite2 (fun i3 => ?_) (fun i3 => ?_)⟩
  · have e : n = 1 := V.int.inj (of_decide_eq_true i3)
    refine ⟨_, rfl, (by show 3 ≤ sizeLine; decide), fun t nt => ?_⟩
    exact q "set" [0, c] _ _ (.inl ⟨.inl rfl, 0, c, rfl, by omega, by omega, c0, c1⟩) (.inr rfl) (tup_op (as := [0, c]) nt) (u6.same (same_new nt)) (b6.trans (But.new nt))
  have n2 : n ≠ 1 := fun e => i3 (decide_eq_true (congrArg V.int e))
  -- y
  refine ⟨_, rfl, _, _, rfl, rfl, _, rfl, _, rfl, n, 1, rfl, rfl, u, _, rfl, u6, by omega, wide_big (by omega) (by omega), fun d H7 d0 d1 u7 b7 => ?_⟩
  refine ⟨_, _, rfl, rfl, _, rfl, _, n, rfl, rfl, (by show (0 : Int) < n; omega), ?_⟩
  have y0 := Int.emod_nonneg (x + 1 + d) (show n ≠ 0 by omega)
  have y1 := Int.emod_lt_of_pos (x + 1 + d) (show 0 < n by omega)
  have yx : x ≠ (x + 1 + d) % n := fun e => by
    have h := Int.emod_def (x + 1 + d) n
    by_cases g : x + 1 + d < n
    · rw [Int.emod_eq_of_lt (by omega) g] at e
      omega
    · have h2 : (x + 1 + d) % n = x + 1 + d - n := by
        rw [← Int.sub_emod_right]
        exact Int.emod_eq_of_lt (by omega) (by omega)
      omega
  -- add
  refine ⟨_, rfl, rfl, _, rfl, ite2 (fun i4 => ?_) (fun i4 => ?_)⟩
  · have e : z = "add" := V.str.inj (of_decide_eq_true i4)
    refine ⟨_, rfl, _, rfl, _, rfl, _, rfl, p, 2, rfl, rfl, _, rfl, ite2 (fun i5 => ?_) (fun i5 => ?_)⟩
    · have g : 2 < p := of_decide_eq_true i5
      have m0 := Int.emod_nonneg c (show p - 1 ≠ 0 by omega)
      have m1 := Int.emod_lt_of_pos c (show 0 < p - 1 by omega)
      refine ⟨_, rfl, _, rfl, p, 1, rfl, rfl, c, _, rfl, rfl, (by show (0 : Int) < p - 1; omega), 1, _, rfl, rfl, (by show 4 ≤ sizeLine; decide), fun t nt => ?_⟩
      exact q z [x, (x + 1 + d) % n, 1 + c % (p - 1)] _ _ (.inr (.inr (.inr ⟨e, x, _, _, rfl, x0, x1, y0, y1, yx, by omega, by omega⟩))) (.inl hz) (tup_op (as := [x, (x + 1 + d) % n, 1 + c % (p - 1)]) nt) (u7.same (same_new nt)) ((b6.trans b7).trans (But.new nt))
    · refine ⟨(by show 4 ≤ sizeLine; decide), fun t nt => ?_⟩
      exact q z [x, (x + 1 + d) % n, 1] _ _ (.inr (.inr (.inr ⟨e, x, _, _, rfl, x0, x1, y0, y1, yx, by omega, by omega⟩))) (.inl hz) (tup_op (as := [x, (x + 1 + d) % n, 1]) nt) (u7.same (same_new nt)) ((b6.trans b7).trans (But.new nt))
  · have e : z ≠ "add" := fun e => i4 (decide_eq_true (congrArg V.str e))
    have hz7 := w7 z hz
    have e2 : z = "copy" ∨ z = "swap" := by
      simp only [W7, List.mem_cons, List.not_mem_nil, or_false] at hz7
      rcases hz7 with h | h | h | h | h | h | h
      · exact absurd (.inl h) z1
      · exact .inl h
      · exact absurd h e
      · exact absurd (.inr h) z1
      · exact .inr h
      · exact absurd (.inl h) z2
      · exact absurd (.inr h) z2
    refine ⟨_, rfl, _, rfl, _, rfl, (by show 3 ≤ sizeLine; decide), fun t nt => ?_⟩
    exact q z [x, (x + 1 + d) % n] _ _ (.inr (.inr (.inl ⟨e2, x, _, rfl, x0, x1, y0, y1, yx⟩))) (.inl hz) (tup_op (as := [x, (x + 1 + d) % n]) nt) (u7.same (same_new nt)) ((b6.trans b7).trans (But.new nt))
end
section
variable {P : Program} {w : World} {K : PySem.W.Frag} {mg : Str → Option Value} {base : Heap}
theorem ok_lbody1 (M : Bl mg) (F : At K mg "_law_body" sBody ["_law_urn_here", "_law_q", "_law_wide", "_law_words_here", "_law_length", "_law_deep", "_law_rounds"]) {d k : Nat}
    (h : Has P w K mg base k "_law_of" ["_law_urn_here", "_law_items"] (spOf K)) (h2 : Has P w K mg base k "_law_take" ["_law_urn_here", "_law_below"] spTake)
    (h3 : Has P w K mg base k "_law_item" ["_law_urn_here", "_law_q", "_law_wide", "_law_words_here"] (spItem K)) (h4 : Has P w K mg base k "_law_body" ["_law_urn_here", "_law_q", "_law_wide", "_law_words_here", "_law_length", "_law_deep", "_law_rounds"] (spBody K d)) :
    Has P w K mg base (k + 1) "_law_body" ["_law_urn_here", "_law_q", "_law_wide", "_law_words_here", "_law_length", "_law_deep", "_law_rounds"] (spBody K (d + 1)) := by
  obtain ⟨_, _, cOf⟩ := h
  obtain ⟨_, _, cTake⟩ := h2
  obtain ⟨_, _, cItem⟩ := h3
  obtain ⟨_, _, cBody⟩ := h4
  refine Has.by F scBody (fun vs H Q E h => ?_) (fun f cdv A out s H vs Q E hg hr h => ?_)
  · obtain ⟨_, _, _, _, _, _, _, _, _, rfl, _⟩ := h
    rfl
  obtain ⟨u, ws, rs, p, n, wl, rl, l, e, rfl, hU, p0, p1, n0, n1, nw, sqw, wne, wle, w7, nr, sqr, rne, rle, l1, ed, q⟩ := h
  refine ⟨_, (pss_cons (ps_set (i := 7) scBody.nd rfl (.inl rfl) (pe_lst pa_nil))
  (pss_cons (ps_for PassesOwn.never rfl (pi_range1 (by rfl) M.range_ (pa_cons (pe_cal cTake hg hr (by rfl) (pa_cons (pv 0) (pa_cons (pe_op op_add (pv 4) pe_int) pa_nil))) pa_nil)) (pg_name (i := 8) scBody.nd rfl (.inl rfl))
    (pss_one (ps_if (PW.pt (pw_and (pt_cmpR op_gt (pv 5) pe_int (nomark _)) (pw_and1 (pt_cmpR op_eq (pe_cal cTake hg hr (by rfl) (pa_cons (pv 0) (pa_cons pe_int pa_nil))) pe_int (nomark _)))))
    (pss_cons (ps_set (i := 9) scBody.nd rfl (.inl rfl) (pe_cal cBody hg hr (by rfl) (pa_cons (pv 0) (pa_cons (pv 1) (pa_cons (pv 2) (pa_cons (pv 3) (pa_cons (pe_op op_fdiv (pv 4) pe_int) (pa_cons (pe_op op_sub (pv 5) pe_int) (pa_cons (pv 6) pa_nil)))))))))
  (pss_one (ps_expr (pe_bm PySem.F.plainAttrs_list PySem.F.slot_list_append PySem.F.type_list_append mt_append (pv 7) (pa_cons (pe_tup (pa_cons pe_str (pa_cons (pe_cal cOf hg hr (by rfl) (pa_cons (pv 0) (pa_cons (pv 6) pa_nil))) (pa_cons (pv 9) pa_nil)))) pa_nil)))))
    (pss_one (ps_expr (pe_bm PySem.F.plainAttrs_list PySem.F.slot_list_append PySem.F.type_list_append mt_append (pv 7) (pa_cons (pe_cal cItem hg hr (by rfl) (pa_cons (pv 0) (pa_cons (pv 1) (pa_cons (pv 2) (pa_cons (pv 3) pa_nil))))) pa_nil)))))))
  (pss_one (ps_ret (pe_callTy call_tuple_of (by rfl) M.tuple_ (by decide +kernel) (pa_cons (pv 7) pa_nil)))))), ?_⟩
  refine ⟨Nat.zero_le _, fun fo nfo => ?_⟩
  have nfu : fo ≠ u := hU.ne nfo
  refine ⟨_, rfl, _, rfl, (l : Int), 1, rfl, rfl, u, _, rfl, hU.same (same_new nfo), by omega, wide_big (by omega) (by omega), fun m H1 m0 m1 u1 b1 => ?_⟩
  refine ⟨m, rfl, by omega, by omega, ?_⟩
  refine for_range (lo := 0) (n := m.toNat) (fun i σ H' => ∃ y8 y9 bs us, σ = [some (.ref u), some (.int p), some (.int n), some (.ref ws), some (.int (l : Int)), some (.int (e : Int)), some (.ref rs), some (.ref fo), y8, y9] ∧ Urn H' u ∧ But u H H' ∧ H' fo = some (.lst us) ∧
    TrsAt K H' bs us ∧ bs.length = i ∧ mades (fun w as => GoodOp p n w as ∧ (w ∈ wl ∨ w = "set")) (fun k => k ∈ rl) bs l e) ⟨none, none, [], [], rfl, u1, (But.new nfo).trans b1, b1 _ _ nfu upd_same, TrsAt.nil, rfl, mades_nil⟩ ?_ ?_
  · rintro i σ H2 hi ⟨y8, y9, bs, us, rfl, u2, b2, h2, tr2, hlen, hmad⟩
    refine ⟨_, rfl, (e : Int), 0, rfl, rfl, _, rfl, ite2 (fun c => ?_) (fun c => ?_)⟩
    · have c' : (0 : Int) < (e : Int) := of_decide_eq_true c
      refine ⟨_, rfl, u, 4, rfl, u2, by decide, wide_big (by decide) (by decide), fun z H3 z0 z1 u3 b3 => ?_⟩
      have h3 := b3 _ _ nfu h2
      have tr3 := TrsAt.kt (u2.kt b3) _ _ tr2
      have b23 := b2.trans b3
      refine ⟨rfl, _, rfl, ite2 (fun c2 => ?_) (fun c2 => ?_)⟩
      · have e1 : ((l : Int) / 2) = ((l / 2 : Nat) : Int) := by omega
        have e2 : ((e : Int) - 1) = ((e - 1 : Nat) : Int) := by omega
        refine ⟨_, rfl, _, rfl, _, rfl, _, rfl, _, rfl, (l : Int), 2, rfl, rfl, ⟨by decide, by decide⟩, _, rfl, (e : Int), 1, rfl, rfl, _, rfl, u, ws, rs, p, n, wl, rl, l / 2, e - 1, ?_, u3, p0, p1, n0, n1, nw, b23.seq nw sqw, wne, wle, w7, nr, b23.seq nr sqr, rne, rle, by omega, by omega, fun b' v' H4 len4 mad4 body4 u4 b4 => ?_⟩
        · show [V.ref u, V.int p, V.int n, V.ref ws, V.int ((l : Int) / 2), V.int ((e : Int) - 1), V.ref rs] = _
          rw [e1, e2]
        have h4 := b4 _ _ nfu h3
        have b24 := b23.trans b4
        refine ⟨_, rfl, .inl ⟨rfl, _, SqL.of h4⟩, _, rfl, _, rfl, u, rs, _, rfl, u4, nr, b24.seq nr sqr, (by simpa using rne), (by rw [List.length_map]; exact rle), fun x H5 hx u5 b5 => ?_⟩
        obtain ⟨k', hk, rfl⟩ := List.mem_map.mp hx
        obtain ⟨c4, vs4, rfl, sq4, tr4⟩ := body4
        refine ⟨_, rfl, (by show 3 ≤ sizeLine; decide), fun t nt => ?_⟩
        have h5 := b5 _ _ nfu h4
        have h6 : (upd H5 t (.tup [.str "loop", .int k', .ref c4])) fo = some (.lst us) := same_new nt _ _ h5
        refine ⟨fo, _, _, rfl, rfl, h6, ?_, ?_⟩
        · rw [tr2.length, hlen]
          exact small1000 (by omega)
        · have kt6 : Kt (upd H5 t (.tup [.str "loop", .int k', .ref c4])) (upd (upd H5 t (.tup [.str "loop", .int k', .ref c4])) fo (.lst (us ++ [.ref t]))) := Kt.but But.upd h6
          have kt5 : Kt H5 (upd (upd H5 t (.tup [.str "loop", .int k', .ref c4])) fo (.lst (us ++ [.ref t]))) := (Kt.same (same_new nt)).trans kt6
          have kt4 := (u4.kt b5).trans kt5
          have kt3 := (u3.kt b4).trans kt4
          have ntf : t ≠ fo := (ne_of_none h5 nt).symm
          refine ⟨_, _, bs ++ [.loop k' b'], us ++ [.ref t], rfl, (u5.same (same_new nt)).but (q := fo) But.upd nfu.symm, fun x o hx ho => ?_, upd_same, (TrsAt.kt kt3 _ _ tr3).append (TrsAt.one ?_), by rw [List.length_append, hlen]; rfl, mades_append hmad (mades_one ?_)⟩
          · rw [upd_ne (ne_of_none ho nfo)]
            exact same_new nt _ _ (b5 _ _ hx (b24 _ _ hx ho))
          · rw [TrAt]
            exact ⟨t, c4, vs4, rfl, kt6.sq (SqT.of upd_same), kt4.sq sq4, TrsAt.kt kt4 _ _ tr4⟩
          · obtain ⟨e', rfl⟩ : ∃ e', e = e' + 1 := ⟨e - 1, by omega⟩
            rw [Tr.made]
            exact ⟨hk, len4, mad4⟩
      · refine ⟨_, rfl, .inl ⟨rfl, _, SqL.of h3⟩, _, rfl, _, rfl, _, rfl, _, rfl, u, ws, p, n, wl, rfl, u3, p0, p1, n0, n1, nw, b23.seq nw sqw, wne, wle, w7, fun w' as v H9 good inl tr u9 b9 => ?_⟩
        refine ⟨fo, _, _, rfl, rfl, b9 _ _ nfu h3, ?_, ?_⟩
        · rw [tr3.length, hlen]
          exact small1000 (by omega)
        · have kt9 : Kt H9 (upd H9 fo (.lst (us ++ [v]))) := Kt.but But.upd (b9 _ _ nfu h3)
          refine ⟨_, _, bs ++ [.op w' as], us ++ [v], rfl, u9.but (q := fo) But.upd nfu.symm, fun x o hx ho => ?_, upd_same, (TrsAt.kt ((u3.kt b9).trans kt9) _ _ tr3).append (TrsAt.one (TrAt.kt kt9 _ _ tr)), by rw [List.length_append, hlen]; rfl, mades_append hmad (mades_one (by rw [Tr.made]; exact ⟨good, inl⟩))⟩
          rw [upd_ne (ne_of_none ho nfo)]
          exact b9 _ _ hx (b23 _ _ hx ho)
    · refine ⟨_, rfl, .inl ⟨rfl, _, SqL.of h2⟩, _, rfl, _, rfl, _, rfl, _, rfl, u, ws, p, n, wl, rfl, u2, p0, p1, n0, n1, nw, b2.seq nw sqw, wne, wle, w7, fun w' as v H9 good inl tr u9 b9 => ?_⟩
      refine ⟨fo, _, _, rfl, rfl, b9 _ _ nfu h2, ?_, ?_⟩
      · rw [tr2.length, hlen]
        exact small1000 (by omega)
      · have kt9 : Kt H9 (upd H9 fo (.lst (us ++ [v]))) := Kt.but But.upd (b9 _ _ nfu h2)
        refine ⟨_, _, bs ++ [.op w' as], us ++ [v], rfl, u9.but (q := fo) But.upd nfu.symm, fun x o hx ho => ?_, upd_same, (TrsAt.kt ((u2.kt b9).trans kt9) _ _ tr2).append (TrsAt.one (TrAt.kt kt9 _ _ tr)), by rw [List.length_append, hlen]; rfl, mades_append hmad (mades_one (by rw [Tr.made]; exact ⟨good, inl⟩))⟩
        rw [upd_ne (ne_of_none ho nfo)]
        exact b9 _ _ hx (b2 _ _ hx ho)
  · rintro σ H2 ⟨y8, y9, bs, us, rfl, u2, b2, h2, tr2, hlen, hmad⟩
    refine ⟨_, rfl, fo, us, rfl, .inl ⟨SqL.of h2, fun t nt => ?_⟩⟩
    exact q bs (.ref t) _ (by omega) hmad ⟨t, us, rfl, SqT.of upd_same, TrsAt.kt (Kt.same (same_new nt)) _ _ tr2⟩ (u2.same (same_new nt)) (b2.trans (But.new nt))
theorem ok_lbody (M : Bl mg) (F : At K mg "_law_body" sBody ["_law_urn_here", "_law_q", "_law_wide", "_law_words_here", "_law_length", "_law_deep", "_law_rounds"]) {k : Nat}
    (h : Has P w K mg base k "_law_of" ["_law_urn_here", "_law_items"] (spOf K)) (h2 : Has P w K mg base k "_law_take" ["_law_urn_here", "_law_below"] spTake)
    (h3 : Has P w K mg base k "_law_item" ["_law_urn_here", "_law_q", "_law_wide", "_law_words_here"] (spItem K)) :
    ∀ d, Has P w K mg base (k + d) "_law_body" ["_law_urn_here", "_law_q", "_law_wide", "_law_words_here", "_law_length", "_law_deep", "_law_rounds"] (spBody K d)
  | 0 => Has.none F fun vs H Q E ⟨_, _, _, _, _, _, _, _, _, _, _, _, _, _, _, _, _, _, _, _, _, _, _, _, _, h, _⟩ => absurd h (Nat.not_lt_zero _)
  | d + 1 => ok_lbody1 M F (h.up (Nat.le_add_right _ _)) (h2.up (Nat.le_add_right _ _)) (h3.up (Nat.le_add_right _ _)) (ok_lbody M F h h2 h3 d)
end
end K05
set_option Elab.async false
set_option pp.maxSteps 500
set_option pp.deepTerms.threshold 8
set_option pp.deepTerms false
set_option linter.all false
set_option maxRecDepth 100000
namespace K05
open PySem PySem.Spec PyProof.Rows L2 Lj
section
variable {P : Program} {w : World} {K : PySem.W.Frag} {mg : Str → Option Value} {base : Heap}
/-! ### asked and held -/
theorem sb_line (b : Bool) : (PyData.bool b).shown.length ≤ sizeLine := by
  have : ∀ b, (PyData.bool b).shown.length ≤ 10 := by decide +kernel
  exact Nat.le_trans (this b) (by rw [sizeLine_eq]; decide)
def spShown (K : PySem.W.Frag) : Sp := fun vs H Q _ => ∃ (p n : Int) (v : V) (d : PyData), vs = [.int p, .int n, v] ∧ Dd K H v d ∧ Sm d ∧ ∀ H', Same H H' → Q (.bl true) H'
theorem tree_of {H : Hp} {p n : Int} {v : V} {d : PyData} (dd : Dd K H v d) (hl : lx d ≤ 1000) : ∃ b : List Tr, okBl (okI p n 4) d = true → BodyAt K H b v ∧ okB 5 b := by
  by_cases c : okBl (okI p n 4) d = true
  · obtain ⟨b, h1, h2⟩ := trs_of c dd hl
    exact ⟨b, fun _ => ⟨h1, h2⟩⟩
  · exact ⟨[], fun h => absurd h c⟩
theorem ok_shown (M : Bl mg) (F : At K mg "_law_shown" sShown ["_law_q", "_law_wide", "_law_thing"]) {k : Nat} (h1 : Has P w K mg base k "is_program" ["p", "n", "value"] (spIP K)) (h2 : Has P w K mg base k "_law_due" ["_law_q", "_law_wide", "_law_thing"] (spIP K)) :
    Has P w K mg base (k + 1) "_law_shown" ["_law_q", "_law_wide", "_law_thing"] (spShown K) := by
  obtain ⟨_, _, cIs_program⟩ := h1
  obtain ⟨_, _, cDue⟩ := h2
  refine Has.by F scShown (fun vs H Q E h => ?_) (fun f cdv A out s H vs Q E hg hr h => ?_)
  · obtain ⟨_, _, _, _, rfl, _⟩ := h
    rfl
  obtain ⟨p, n, v, d, rfl, dd, sm, q⟩ := h
  obtain ⟨l1, l2, l3⟩ := sm.line
  obtain ⟨b, hb⟩ := tree_of (p := p) (n := n) dd sm.2.2.2
  refine ⟨_, (pss_cons (ps_set (i := 3) scShown.nd rfl (.inl rfl) (pe_callB (call_reprA (K := K) rfl hg hr) (by rfl) M.repr_ (by decide +kernel) (pa_cons (pv 2) pa_nil)))
  (pss_one (ps_ret (pe_and (pe_cmpR op_eq (pe_callB (call_reprA (K := K) rfl hg hr) (by rfl) M.repr_ (by decide +kernel) (pa_cons (pe_cal cIs_program hg hr (by rfl) (pa_cons (pv 0) (pa_cons (pv 1) (pa_cons (pv 2) pa_nil)))) pa_nil)) (pe_callB (call_reprA (K := K) rfl hg hr) (by rfl) M.repr_ (by decide +kernel) (pa_cons (pe_cal cDue hg hr (by rfl) (pa_cons (pv 0) (pa_cons (pv 1) (pa_cons (pv 2) pa_nil)))) pa_nil)) (nomark _)) (pe_one (pe_cmpR op_eq (pe_callB (call_reprA (K := K) rfl hg hr) (by rfl) M.repr_ (by decide +kernel) (pa_cons (pv 2) pa_nil)) (pv 3) (nomark _))))))), ?_⟩
  refine ⟨_, rfl, v, d, rfl, dd, l1, l2, l3, ?_⟩
  refine ⟨_, rfl, _, rfl, _, rfl, p, n, v, d, b, rfl, dd, sm.2.2.2, hb, fun H1 s1 => ?_⟩
  refine ⟨.bl _, .bool _, rfl, .bl _, rfl, (by show 0 ≤ 64; decide), sb_line _, ?_⟩
  refine ⟨_, rfl, _, rfl, _, rfl, p, n, v, d, b, rfl, dd.same s1, sm.2.2.2, fun h => ⟨(hb h).1.kt (Kt.same s1), (hb h).2⟩, fun H2 s2 => ?_⟩
  refine ⟨.bl _, .bool _, rfl, .bl _, rfl, (by show 0 ≤ 64; decide), sb_line _, rfl, _, rfl, ?_⟩
  refine iteP rfl ?_
  refine ⟨_, rfl, v, d, rfl, dd.same (s1.trans s2), l1, l2, l3, _, rfl, rfl, ?_⟩
  have := q H2 (s1.trans s2)
  rw [show decide (V.str d.shown = V.str d.shown) = true from decide_eq_true rfl]
  exact this
/-! ### drawn programs as data -/
theorem kt_ban {B : List Addr} {H : Hp} (h : ∀ x ∈ B, ∃ xs, H x = some (.lst xs)) : Kt H (ban B H) := fun a xs r => by
  by_cases c : a ∈ B
  · obtain ⟨ys, e⟩ := h a c
    rcases r with r | ⟨o, r⟩
    · rw [e] at r; cases r
    · rw [e] at r; cases r
  · rcases r with r | ⟨o, r⟩
    · exact .inl (ban_at r c)
    · exact .inr ⟨o, ban_at r c⟩
theorem dd_ints2 {H : Hp} : ∀ (as : List Int), DdAll K H (as.map V.int) (as.map PyData.int)
  | [] => .nil
  | a :: as => .cons (.int a) (dd_ints2 as)
mutual
theorem tr_dd {H : Hp} : ∀ (t : Tr) (v : V), TrAt K H t v → Dd K H v t.datT
  | .op w as, v, h => by
    rw [TrAt] at h
    obtain ⟨a, rfl, sq⟩ := h
    rw [Tr.datT]
    exact .tup sq (.cons (.str w) (dd_ints2 as))
  | .loop k b, v, h => by
    rw [TrAt] at h
    obtain ⟨a, c, vs, rfl, sq, sq2, r⟩ := h
    rw [Tr.datT]
    exact .tup sq (.cons (.str _) (.cons (.int k) (.cons (.tup sq2 (trs_dd b vs r)) .nil)))
theorem trs_dd {H : Hp} : ∀ (b : List Tr) (vs : List V), TrsAt K H b vs → DdAll K H vs (datTs b)
  | [], vs, h => by
    rw [TrsAt] at h
    rw [h, datTs]
    exact .nil
  | t :: r, vs, h => by
    rw [TrsAt] at h
    obtain ⟨v, us, rfl, a, k⟩ := h
    rw [datTs]
    exact .cons (tr_dd t v a) (trs_dd r us k)
end
def wv : Nat → Nat → Nat
  | _, 0 => 7697
  | l, d + 1 => 7697 + 3856 + (l / 2) * wv (l / 2) d
theorem wv_ge : ∀ l d, 7697 ≤ wv l d
  | _, 0 => Nat.le_refl _
  | l, d + 1 => by rw [wv]; omega
theorem leaf_W7 {x : Str} (h : x ∈ W7) : Leaf (.str x) := by
  have z : (W7.all fun x => (PyData.str x).showable && decide ((PyData.str x).shown.length ≤ 1921)) = true := by decide +kernel
  have y := List.all_eq_true.mp z x h
  rw [Bool.and_eq_true] at y
  exact ⟨y.1, by rw [PyData.hasDict], by rw [PyData.depth], of_decide_eq_true y.2⟩
theorem len_datTs : ∀ b : List Tr, (datTs b).length = b.length
  | [] => rfl
  | t :: r => by rw [datTs, List.length_cons, List.length_cons, len_datTs r]
mutual
theorem made_od {G : Str → List Int → Prop} {R : Int → Prop} (hG : ∀ w as, G w as → Short w as) (hR : ∀ k, R k → k.natAbs < 2 ^ 1000) : ∀ (t : Tr) (l d : Nat), l ≤ 8 → t.made G R l d → Od (wv l d) (2 * d + 1) 8 t.datT
  | .op w as, l, d, hl, h => by
    rw [Tr.made] at h
    obtain ⟨h1, h2, h3⟩ := hG w as h
    rw [Tr.datT]
    have z := od_tup (N := 1923) (D := 0) (X := 8) (ds := .str w :: as.map PyData.int) (fun x m => by
      rcases List.mem_cons.mp m with rfl | m
      · exact od_leaf (leaf_W7 h1) fun ds => ⟨fun e => PyData.noConfusion e, fun e => PyData.noConfusion e⟩
      · obtain ⟨i, mi, rfl⟩ := List.mem_map.mp m
        exact od_i (h3 i mi)) (by rw [List.length_cons, List.length_map]; omega)
    rw [List.length_cons, List.length_map] at z
    exact z.up (by have := wv_ge l d; omega) (by omega) (Nat.le_refl _)
  | .loop k b, l, 0, _, h => by rw [Tr.made] at h; exact h.elim
  | .loop k b, l, d + 1, hl, h => by
    rw [Tr.made] at h
    have z := mades_od hG hR b (l / 2) d (by omega) h.2.2
    have y := od_tup (X := 8) z (by rw [len_datTs]; have := h.2.1; omega)
    rw [len_datTs] at y
    rw [Tr.datT]
    refine (od_loop (od_i (hR k h.1)) y (by decide)).up ?_ (by omega) (Nat.le_refl _)
    rw [wv]
    have m1 : b.length * wv (l / 2) d ≤ (l / 2) * wv (l / 2) d := Nat.mul_le_mul_right _ h.2.1
    omega
theorem mades_od {G : Str → List Int → Prop} {R : Int → Prop} (hG : ∀ w as, G w as → Short w as) (hR : ∀ k, R k → k.natAbs < 2 ^ 1000) : ∀ (b : List Tr) (l d : Nat), l ≤ 8 → mades G R b l d → ∀ x ∈ datTs b, Od (wv l d) (2 * d + 1) 8 x
  | [], l, d, _, _, x, m => by rw [datTs] at m; cases m
  | t :: r, l, d, hl, h, x, m => by
    rw [mades] at h
    rw [datTs] at m
    rcases List.mem_cons.mp m with rfl | m
    · exact made_od hG hR t l d hl h.1
    · exact mades_od hG hR r l d hl h.2 x m
end
theorem good_short5 {p n : Int} {z : Str} {as : List Int} (h : GoodOp p n z as) (hp : p ≤ 10007) (hn : n ≤ 8) : Short z as := by
  have big : (20000 : Nat) < 2 ^ 1000 := by decide +kernel
  refine ⟨h.w7, ?_, fun a m => ?_⟩
  · rcases h with ⟨_, _, _, rfl, _⟩ | ⟨_, _, rfl, _⟩ | ⟨_, _, _, rfl, _⟩ | ⟨_, _, _, _, rfl, _⟩ <;> simp
  · rcases h with ⟨_, x, c, rfl, h⟩ | ⟨_, x, rfl, h⟩ | ⟨_, x, y, rfl, h⟩ | ⟨_, x, y, c, rfl, h⟩ <;> simp only [List.mem_cons, List.not_mem_nil, or_false] at m
    · rcases m with rfl | rfl <;> omega
    · subst m
      omega
    · rcases m with rfl | rfl <;> omega
    · rcases m with rfl | rfl | rfl <;> omega
theorem prog_od {p n : Int} {G2 : Str → List Int → Prop} {rl : List Int} {b : List Tr} (hp : p ≤ 10007) (hn : n ≤ 8) (hr : ∀ k ∈ rl, k.natAbs < 2 ^ 1000) (hb : b.length ≤ 8) (hm : mades (fun w as => GoodOp p n w as ∧ G2 w as) (fun k => k ∈ rl) b 8 4) : Od 1940909 10 8 (.tuple (datTs b)) := by
  have z := od_tup (X := 8) (mades_od (fun w as h => good_short5 h.1 hp hn) (fun k h => hr k h) b 8 4 (Nat.le_refl _) hm) (by rw [len_datTs]; exact hb)
  rw [len_datTs] at z
  have w8 : wv 8 4 = 242613 := by decide
  rw [w8] at z
  exact z.up (by omega) (by decide) (Nat.le_refl _)
end
end K05
set_option Elab.async false
set_option pp.maxSteps 500
set_option pp.deepTerms.threshold 8
set_option pp.deepTerms false
set_option linter.all false
set_option maxRecDepth 100000
namespace K05
open PySem PySem.Spec PyProof.Rows L2 Lj
section
variable {P : Program} {w : World} {K : PySem.W.Frag} {mg : Str → Option Value} {base : Heap}
def spLaw (K : PySem.W.Frag) : Sp := fun vs H Q _ => ∃ (a : Addr) (ns : List Int), vs = [.ref a] ∧ SqL K H a (ns.map V.int) ∧ ns.length ≤ 63 ∧ ∀ H', Q (.bl true) H'
theorem rep_snoc (i : Nat) : (List.replicate i true).map V.bl ++ [V.bl true] = (List.replicate (i + 1) true).map V.bl := by
  rw [List.replicate_succ', List.map_append]
  rfl
theorem all_rep : ∀ n : Nat, (List.replicate n true).all id = true
  | 0 => rfl
  | n + 1 => by rw [List.replicate_succ, List.all_cons, all_rep n]; rfl
theorem same_butU {u : Addr} {H H1 H2 : Hp} (s : Same H H1) (n : H u = none) (b : But u H1 H2) : Same H H2 := fun x o e => b _ _ (fun z => by subst z; rw [n] at e; cases e) (s _ _ e)
theorem ban_add {B : List Addr} {l : Addr} {H : Hp} {o : HO} (n : H l = none) : Same (ban B H) (ban (l :: B) (upd H l o)) := fun x y e => by
  have e' := ban_on _ _ e
  have nl : x ≠ l := ne_of_none e' n
  unfold ban at e ⊢
  split at e
  · cases e
  · rename_i nm
    rw [if_neg (fun m => (List.mem_cons.mp m).elim nl nm), upd_ne nl]
    exact e
theorem at_neg1 (xs : List V) (v : V) : atI (xs ++ [v]) (-1) = some v := by
  unfold atI ixN
  rw [if_neg (by decide), List.length_append, List.length_singleton, if_pos (by omega)]
  show (xs ++ [v])[((-1 : Int) + ((xs.length + 1 : Nat) : Int)).toNat]? = _
  rw [show ((-1 : Int) + ((xs.length + 1 : Nat) : Int)).toNat = xs.length by omega, List.getElem?_append_right (Nat.le_refl _), Nat.sub_self]
  rfl
theorem fit_od {N D X : Nat} {d e : PyData} (h : Fit d e) (o : Od N D X d) : Od (2 * N + 20000) (D + 2) (X + 4) e := ⟨h.1, by have := h.2.1; have := o.2.1; omega, by have := h.2.2.1; have := o.2.2.1; omega, by have := h.2.2.2; have := o.2.2.2; omega⟩
theorem odd_sm {d : PyData} (h : Odd d) : Sm d := ⟨h.1, by have := h.2.1; omega, by have := h.2.2.1; omega, by have := h.2.2.2; omega⟩
set_option maxHeartbeats 4000000 in
theorem ok_law (M : Bl mg) (F : At K mg "law" sLaw ["_law_script"]) (FP : At K mg "is_program" sIs_program ["p", "n", "value"]) {k : Nat}
    (h1 : Has P w K mg base k "_law_urn" ["_law_script", "_law_k"] (spUrn K)) (h2 : Has P w K mg base k "_law_take" ["_law_urn_here", "_law_below"] spTake) (h3 : Has P w K mg base k "_law_prime" ["_law_urn_here"] spPrimeU) (h4 : Has P w K mg base k "_law_words" [] spWords)
    (h5 : Has P w K mg base k "_law_body" ["_law_urn_here", "_law_q", "_law_wide", "_law_words_here", "_law_length", "_law_deep", "_law_rounds"] (spBody K 5)) (h6 : Has P w K mg base k "_law_odd" ["_law_urn_here", "_law_q", "_law_wide"] (spOdd K)) (h7 : Has P w K mg base k "_law_bent" ["_law_urn_here", "_law_q", "_law_wide", "_law_thing"] (spBent K 12))
    (h8 : Has P w K mg base k "_law_edges" [] (spEdges K)) (h9 : Has P w K mg base k "_law_shown" ["_law_q", "_law_wide", "_law_thing"] (spShown K)) (h10 : Has P w K mg base k "is_program" ["p", "n", "value"] (spIP K)) (h11 : Has P w K mg base k "_law_due" ["_law_q", "_law_wide", "_law_thing"] (spIP K)) : Has P w K mg base (k + 1) "law" ["_law_script"] (spLaw K) := by
  obtain ⟨_, _, cUrn⟩ := h1
  obtain ⟨_, _, cTake⟩ := h2
  obtain ⟨_, _, cPrime⟩ := h3
  obtain ⟨_, _, cWords⟩ := h4
  obtain ⟨_, _, cBody⟩ := h5
  obtain ⟨_, _, cOdd⟩ := h6
  obtain ⟨_, _, cBent⟩ := h7
  obtain ⟨_, _, cEdges⟩ := h8
  obtain ⟨_, _, cShown⟩ := h9
  obtain ⟨_, _, cIs_program⟩ := h10
  obtain ⟨_, _, cDue⟩ := h11
  have kIs_program := kb3r (a := "p") (b := "n") (c := "value") (cIs_program.text FP) (fun _ _ _ _ _ _ _ _ _ => rfl)
  refine Has.by F scLaw (fun vs H Q E h => ?_) (fun f cdv A out s H vs Q E hg hr h => ?_)
  · obtain ⟨a, ns, rfl, _⟩ := h
    rfl
  obtain ⟨a, ns, rfl, hS, hl, q⟩ := h
  refine ⟨_, (pss_cons (ps_if (pt_not (pt_val (pe_callB (cr_all rfl) (by rfl) M.all_ (by decide +kernel) (pa_cons (pe_lc (own := [("_law_thing", 8)]) (g := gName 8) (by rfl) scLaw.nd (pi_list (pe_cal0 cEdges hg hr (by rfl))) (blkOk_by (own := [("_law_thing", 8)]) (N := ["_law_script", "_law_k", "_law_urn_here", "_law_q", "_law_wide", "_law_program", "_law_turn", "_law_some", "_law_thing"]) (sc := defScope sLaw) (by decide +kernel)) (fun _ _ _ _ _ => (pg_name (i := 8) scLaw.nd rfl (.inl rfl))) (fun _ _ _ _ _ => pts_nil) (fun _ _ _ _ _ => (pe_cal cShown hg hr (by rfl) (pa_cons pe_int (pa_cons pe_int (pa_cons (pv 8) pa_nil)))))) pa_nil))))
    (pss_one (ps_ret pe_bl))
    pss_nil)
  (pss_cons (ps_for PassesOwn.never rfl (pi_range1 (by rfl) M.range_ (pa_cons (pe_callB (call_max2 rfl) (by rfl) M.max_ (by decide +kernel) (pa_cons pe_int (pa_cons (pe_callB (call_min2 rfl) (by rfl) M.min_ (by decide +kernel) (pa_cons pe_int (pa_cons (pe_callB call_len_seq (by rfl) M.len_ (by decide +kernel) (pa_cons (pv 0) pa_nil)) pa_nil))) pa_nil))) pa_nil)) (pg_name (i := 1) scLaw.nd rfl (.inl rfl))
    (pss_cons (ps_set (i := 2) scLaw.nd rfl (.inr rfl) (pe_cal cUrn hg hr (by rfl) (pa_cons (pv 0) (pa_cons (pv 1) pa_nil))))
  (pss_cons (ps_asg (pe_tup (pa_cons (pe_cal cPrime hg hr (by rfl) (pa_cons (pv 2) pa_nil)) (pa_cons (pe_op op_add pe_int (pe_cal cTake hg hr (by rfl) (pa_cons (pv 2) (pa_cons pe_int pa_nil)))) pa_nil))) (pg_tup rfl (pgs_cons (pg_name (i := 3) scLaw.nd rfl (.inr rfl)) (pgs_cons (pg_name (i := 4) scLaw.nd rfl (.inr rfl)) pgs_nil))))
  (pss_cons (ps_set (i := 5) scLaw.nd rfl (.inl rfl) (pe_cal cBody hg hr (by rfl) (pa_cons (pv 2) (pa_cons (pv 3) (pa_cons (pv 4) (pa_cons (pe_cal0 cWords hg hr (by rfl)) (pa_cons pe_int (pa_cons pe_int (pa_cons (pe_lst (pa_cons pe_int (pa_cons pe_int (pa_cons pe_int (pa_cons (pe_op op_pow pe_int pe_int) (pa_cons (pe_cal cTake hg hr (by rfl) (pa_cons (pv 2) (pa_cons (pe_op op_pow pe_int pe_int) pa_nil))) pa_nil)))))) pa_nil)))))))))
  (pss_cons (ps_set (i := 7) scLaw.nd rfl (.inl rfl) (pe_op op_cat (pe_lst (pa_cons (pv 5) (pa_cons (pe_tup (pa_cons (pv 5) pa_nil)) (pa_cons (pe_callTy call_list_of (by rfl) M.list_ (by decide +kernel) (pa_cons (pv 5) pa_nil)) pa_nil)))) (pe_lc (own := [("_law_turn", 6)]) (g := gName 6) (by rfl) scLaw.nd (pi_range1 (by rfl) M.range_ (pa_cons pe_int pa_nil)) (blkOk_by (own := [("_law_turn", 6)]) (N := ["_law_script", "_law_k", "_law_urn_here", "_law_q", "_law_wide", "_law_program", "_law_turn", "_law_some", "_law_thing"]) (sc := defScope sLaw) (by decide +kernel)) (fun _ _ _ _ _ => (pg_name (i := 6) scLaw.nd rfl (.inl rfl))) (fun _ _ _ _ _ => pts_nil) (fun _ _ _ _ _ => (pe_cal cOdd hg hr (by rfl) (pa_cons (pv 2) (pa_cons (pv 3) (pa_cons (pv 4) pa_nil))))))))
  (pss_cons (ps_for PassesOwn.never rfl (pi_range1 (by rfl) M.range_ (pa_cons pe_int pa_nil)) (pg_name (i := 6) scLaw.nd rfl (.inl rfl))
    (pss_cons (ps_expr (pe_bm PySem.F.plainAttrs_list PySem.F.slot_list_append PySem.F.type_list_append mt_append (pv 7) (pa_cons (pe_cal cBent hg hr (by rfl) (pa_cons (pv 2) (pa_cons (pv 3) (pa_cons (pv 4) (pa_cons (pv 5) pa_nil))))) pa_nil)))
  (pss_one (ps_expr (pe_bm PySem.F.plainAttrs_list PySem.F.slot_list_append PySem.F.type_list_append mt_append (pv 7) (pa_cons (pe_cal cBent hg hr (by rfl) (pa_cons (pv 2) (pa_cons (pv 3) (pa_cons (pv 4) (pa_cons (pe_ix ix_list (pv 7) (pe_un un_neg pe_int) (fun _ _ => rfl)) pa_nil))))) pa_nil))))))
  (pss_cons (ps_if (pt_not (pt_val (pe_callB (cr_all rfl) (by rfl) M.all_ (by decide +kernel) (pa_cons (pe_lc (own := [("_law_thing", 8)]) (g := gName 8) (by rfl) scLaw.nd (pi_list (pv 7)) (blkOk_by (own := [("_law_thing", 8)]) (N := ["_law_script", "_law_k", "_law_urn_here", "_law_q", "_law_wide", "_law_program", "_law_turn", "_law_some", "_law_thing"]) (sc := defScope sLaw) (by decide +kernel)) (fun _ _ _ _ _ => (pg_name (i := 8) scLaw.nd rfl (.inl rfl))) (fun _ _ _ _ _ => pts_nil) (fun _ _ _ _ _ => (pe_cal cShown hg hr (by rfl) (pa_cons (pv 3) (pa_cons (pv 4) (pa_cons (pv 8) pa_nil)))))) pa_nil))))
    (pss_one (ps_ret pe_bl))
    pss_nil)
  (pss_one (ps_if (pt_cmpR op_ne (pe_calK0 cIs_program kIs_program hg hr (by rfl) (pk_cons (pv 5) (pk_cons (pv 4) (pk_cons (pv 3) pk_nil)))) (pe_cal cDue hg hr (by rfl) (pa_cons (pv 3) (pa_cons (pv 4) (pa_cons (pv 5) pa_nil)))) (nomark _))
    (pss_one (ps_ret pe_bl))
    pss_nil)))))))))
  (pss_one (ps_ret pe_bl)))), ?_⟩
  -- the limits
  refine ⟨rfl, fun l xs ds H1 s1 hl1 dd1 sm1 ln1 => ?_⟩
  refine ⟨l, rfl, ⟨_, SqL.of hl1⟩, fun D nD => ?_⟩
  refine lc_list (xs := xs) (fun i H' => H' D = some (.lst ((List.replicate i true).map V.bl)) ∧ Same H1 H') ⟨upd_same, same_new nD⟩ (fun i H' _ h => SqL.of (h.2 _ _ hl1)) ?_ ?_
  · rintro i x H2 hx ⟨e1, e2⟩
    have hi : i < xs.length := (List.getElem?_eq_some_iff.mp hx).1
    obtain ⟨d, hd, dx⟩ := dd1.get hx
    refine ⟨rfl, _, rfl, 2, 1, x, d, rfl, dx.same e2, sm1 d (List.mem_of_getElem? hd), fun H3 s3 => ⟨_, s3 _ _ e1, ?_, ?_, fun b o ho => ?_⟩⟩
    · rw [List.length_map, List.length_replicate, sizeLine_eq]
      omega
    · rw [upd_same, rep_snoc]
    · rw [upd_ne (ne_of_none ho nD)]
      exact s3 _ _ (e2 _ _ ho)
  rintro H2 ⟨e1, e2⟩
  refine ⟨D, _, rfl, SqL.of e1, _, rfl, ?_⟩
  rw [all_rep]
  refine iteF ?_
  have e3 : Same H H2 := s1.trans e2
  have hlen : (ns.map V.int).length = ns.length := List.length_map _
  refine ⟨_, rfl, a, _, rfl, .inl (e3.seq hS), 3, _, rfl, 1, _, rfl, ?_⟩
  rw [hlen]
  obtain ⟨m, hm, hm3⟩ : ∃ m : Nat, (if (if (ns.length : Int) < 3 then (ns.length : Int) else 3) > 1 then (if (ns.length : Int) < 3 then (ns.length : Int) else 3) else 1) = (m : Int) ∧ m ≤ 3 := by
    refine ⟨(if (if (ns.length : Int) < 3 then (ns.length : Int) else 3) > 1 then (if (ns.length : Int) < 3 then (ns.length : Int) else 3) else 1).toNat, ?_, ?_⟩
    · split <;> split <;> omega
    · split <;> split <;> omega
  refine ⟨_, rfl, ?_, ?_, ?_⟩
  · rw [hm]; omega
  · rw [hm]; omega
  rw [hm]
  refine for_range (lo := 0) (n := m) (fun i σ H' => ∃ y1 y2 y3 y4 y5 y6 y7, σ = [some (.ref a), y1, y2, y3, y4, y5, y6, y7, none] ∧ Same H H') ⟨_, _, _, _, _, _, _, rfl, e3⟩ ?_ ?_
  · rintro i σ H3 hi ⟨y1, y2, y3, y4, y5, y6, y7, rfl, s3⟩
    refine ⟨_, rfl, _, rfl, a, ns, _, rfl, s3.seq hS, by omega, by omega, fun H4 u s4 nu hU => ?_⟩
    have nHu : H u = none := s3.free nu
    have sH4 := s3.trans s4
    -- the field and the registers
    refine ⟨_, rfl, u, rfl, hU, fun p H5 hp u5 b5 => ?_⟩
    obtain ⟨p0, p1⟩ := prs_bd hp
    refine ⟨_, rfl, u, 8, rfl, u5, by decide, wide_big (by decide) (by decide), fun z H6 z0 z1 u6 b6 => ?_⟩
    refine ⟨_, _, rfl, rfl, (by show 2 ≤ sizeLine; decide), fun T nT => ⟨T, _, rfl, SqT.of upd_same, rfl, _, _, rfl, _, _, rfl, rfl, ?_⟩⟩
    have sT := same_new (o := .tup [V.int p, V.int (1 + z)]) nT
    have sH7 := (same_butU (same_butU sH4 nHu b5) nHu b6).trans sT
    have u7 := u6.same sT
    -- the program
    refine ⟨_, rfl, _, rfl, _, rfl, rfl, fun ws nws => ?_⟩
    have sw := same_new (o := .lst (W9.map V.str)) nws
    refine ⟨10, 18, rfl, rfl, ⟨by decide, by decide, by decide⟩, _, rfl, 10, 18, rfl, rfl, ⟨by decide, by decide, by decide⟩, u, _, rfl, u7.same sw, by decide, wide_big (by decide) (by decide), fun r H8 r0 r1 u8 b8 => ?_⟩
    refine ⟨(by show 5 ≤ sizeLine; decide), fun rs nrs => ?_⟩
    have sr := same_new (o := .lst [V.int 0, .int 1, .int 2, .int (10 ^ 18), .int r]) nrs
    have nwu : ws ≠ u := u7.ne nws
    have sH9 := (same_butU (sH7.trans sw) nHu b8).trans sr
    have r1' : r < 10 ^ 18 := r1
    refine ⟨u, ws, rs, p, 1 + z, W9, [0, 1, 2, 10 ^ 18, r], 8, 4, rfl, u8.same sr, p0, p1, by omega, by omega, nwu, SqL.of (sr _ _ (b8 _ _ nwu upd_same)), by decide, by decide, W9_in, u8.ne nrs, SqL.of upd_same, (by intro e; cases e), (by show 5 ≤ 1000; decide), by decide, by decide, fun b v H10 bl mad body u10 b10 => ?_⟩
    have sH10 := same_butU sH9 nHu b10
    have big : (1000000000000000000 : Nat) < 2 ^ 1000 := by decide +kernel
    have od := prog_od p1 (by omega) (fun k hk => by
      simp only [List.mem_cons, List.not_mem_nil, or_false] at hk
      rcases hk with rfl | rfl | rfl | rfl | rfl
      · decide
      · decide
      · decide
      · decide
      · exact Nat.lt_of_le_of_lt (by omega) big) bl mad
    obtain ⟨c, ys, rfl, sq, tr⟩ := body
    have hL10 : ∀ x ∈ [u], ∃ xs, H10 x = some (.lst xs) := fun x mx => by
      rw [List.mem_singleton.mp mx]
      obtain ⟨_, _, e, _⟩ := u10
      exact ⟨_, e⟩
    have sqB : SqT K (ban [u] H10) c ys := (kt_ban hL10).sq sq
    have trB := TrsAt.kt (kt_ban hL10) _ _ tr
    have rB := trs_dd b ys trB
    have pB : Dd K (ban [u] H10) (.ref c) (.tuple (datTs b)) := .tup sqB rB
    have hB10 : Held [u] H10 := fun x mx => by
      obtain ⟨xs, e⟩ := hL10 x mx
      exact ⟨_, e⟩
    have yl : ys.length ≤ 8 := by rw [tr.length]; exact bl
    -- as it is, and values of any kind
    refine ⟨_, rfl, _, rfl, (by show 1 ≤ sizeLine; decide), fun t1 n1 => ?_⟩
    have w1 := same_new (o := .tup [V.ref c]) n1
    have g1 := mk_one hB10 n1 pB
    refine ⟨_, rfl, c, ys, rfl, .inr ((Kt.same w1).sq sq), fun l2 n2 => ?_⟩
    have w2 := same_new (o := .lst ys) n2
    have g2 : Dd K (ban [u] _) (.ref l2) (.list (datTs b)) := .lst (SqL.of (ban_new (hB10.same w1) n2)) (rB.same (ban_same (w1.trans w2)))
    refine ⟨(by show 3 ≤ sizeLine; decide), fun L1 nL1 => ?_⟩
    have w3 := same_new (o := .lst [V.ref c, .ref t1, .ref l2]) nL1
    have w13 := (w1.trans w2).trans w3
    refine ⟨4, rfl, by decide, by decide, fun D4 nD4 => ?_⟩
    have w4 := same_new (o := .lst []) nD4
    have w14 := w13.trans w4
    have nL1D : L1 ≠ D4 := ne_of_none upd_same nD4
    have nuD : u ≠ D4 := fun e => by
      obtain ⟨_, _, e', _⟩ := u10.same w13
      rw [e, nD4] at e'
      cases e'
    have nHD : H D4 = none := (sH10.trans w13).free nD4
    refine lc_range (lo := 0) (n := 4) (fun j H' => ∃ vs es, H' D4 = some (.lst vs) ∧ DdAll K (ban [D4, u] H') vs es ∧ (∀ d ∈ es, Sm d) ∧ vs.length = j ∧ Urn H' u ∧ (∀ x o, x ≠ D4 → x ≠ u → (upd _ D4 (.lst [])) x = some o → H' x = some o)) ⟨[], [], upd_same, .nil, (fun d m => (nomatch m)), rfl, u10.same w14, fun x o _ _ e => e⟩ ?_ ?_
    · rintro j H11 hj ⟨vs, es, f1, f2, f3, f4, f5, f6⟩
      have hBD : Held [D4, u] H11 := fun x mx => by
        rcases List.mem_cons.mp mx with rfl | mx
        · exact ⟨_, f1⟩
        · rw [List.mem_singleton.mp mx]; exact urn_at f5
      refine ⟨rfl, _, rfl, _, rfl, _, rfl, u, p, 1 + z, [D4, u], rfl, f5, by simp, hBD, by omega, by omega, by omega, by omega, fun v d H12 u12 b12 dd od => ?_⟩
      refine ⟨_, b12 _ _ nuD.symm f1, by rw [f4, sizeLine_eq]; omega, vs ++ [v], es ++ [d], upd_same, ((f2.same (ban_but (by simp) b12)).append (.cons dd .nil)).same (ban_but (u := D4) (by simp) But.upd), fun x mx => ?_, by rw [List.length_append, f4]; rfl, u12.but (q := D4) But.upd nuD, fun x o nx nx2 e => ?_⟩
      · rcases List.mem_append.mp mx with mx | mx
        · exact f3 x mx
        · rw [List.mem_singleton.mp mx]; exact odd_sm od
      · rw [upd_ne nx]
        exact b12 _ _ nx2 (f6 _ _ nx nx2 e)
    rintro H11 ⟨vs, es, f1, f2, f3, f4, f5, f6⟩
    have eL1 : H11 L1 = some (.lst [V.ref c, .ref t1, .ref l2]) := f6 _ _ nL1D ((u10.same (w1.trans w2)).ne nL1) (w4 _ _ upd_same)
    -- everything but the urn is as it was
    have k11 : But u H10 H11 := fun x o nx e => by
      have e1 := w13 _ _ e
      exact f6 _ _ (ne_of_none e1 nD4) nx (w4 _ _ e1)
    have sH11 := same_butU sH10 nHu k11
    have k2 : But u (upd (upd H10 t1 (.tup [V.ref c])) l2 (.lst ys)) H11 := fun x o nx e => by
      have e1 := w3 _ _ e
      exact f6 _ _ (ne_of_none e1 nD4) nx (w4 _ _ e1)
    refine ⟨L1, D4, _, _, rfl, rfl, eL1, f1, by rw [sizeLine_eq]; show 3 + vs.length ≤ _; omega, fun L nL => ?_⟩
    have wL := same_new (o := .lst ([V.ref c, .ref t1, .ref l2] ++ vs)) nL
    have nHL : H L = none := sH11.free nL
    have nLu : L ≠ u := f5.ne nL
    have dd0 : DdAll K (ban [u] H11) ([V.ref c, .ref t1, .ref l2] ++ vs) ([.tuple (datTs b), .tuple [.tuple (datTs b)], .list (datTs b)] ++ es) :=
      DdAll.append (.cons (pB.same (ban_but (by simp) k11)) (.cons ((g1.same (ban_same w2)).same (ban_but (by simp) k2)) (.cons (g2.same (ban_but (by simp) k2)) .nil))) (f2.same (ban_sub (fun x mx => List.mem_cons_of_mem _ mx)))
    have gp : gd (.tuple (datTs b)) := od.1
    have sm0 : ∀ d ∈ [PyData.tuple (datTs b), .tuple [.tuple (datTs b)], .list (datTs b)] ++ es, Sm d := fun d md => by
      rcases List.mem_append.mp md with md | md
      · simp only [List.mem_cons, List.not_mem_nil, or_false] at md
        rcases md with rfl | rfl | rfl
        · exact od.sm (by decide) (by decide) (by decide)
        · exact (od_one od (by decide)).sm (by decide) (by decide) (by decide)
        · exact (fit_od (way3 gp) od).sm (by decide) (by decide) (by decide)
      · exact f3 d md
    have pL : Dd K (ban [L, u] _) (.ref c) (.tuple (datTs b)) := (pB.same (ban_but (by simp) k11)).same (ban_add (o := .lst ([V.ref c, .ref t1, .ref l2] ++ vs)) nL)
    -- eight times changed
    refine ⟨8, rfl, by decide, by decide, ?_⟩
    refine for_range (lo := 0) (n := 8) (fun j σ H' => ∃ y6 xs ds, σ = [some (.ref a), some (.int (0 + (i : Nat))), some (.ref u), some (.int p), some (.int (1 + z)), some (.ref c), y6, some (.ref L), none] ∧ Urn H' u ∧ H' L = some (.lst xs) ∧ DdAll K (ban [L, u] H') xs ds ∧ (∀ d ∈ ds, Sm d) ∧ xs.length = 7 + 2 * j ∧ Dd K (ban [L, u] H') (.ref c) (.tuple (datTs b)) ∧ Same H H')
      ⟨_, _, _, rfl, f5.same wL, upd_same, dd0.same (ban_add nL), sm0, by rw [List.length_append, f4]; rfl, pL, sH11.trans wL⟩ ?_ ?_
    · rintro j σ H12 hj ⟨y6, xs, ds, rfl, v1, v2, v3, v4, v5, v6, v7⟩
      have hB12 : Held [L, u] H12 := fun x mx => by
        rcases List.mem_cons.mp mx with rfl | mx
        · exact ⟨_, v2⟩
        · rw [List.mem_singleton.mp mx]; exact urn_at v1
      refine ⟨_, rfl, .inl ⟨rfl, _, SqL.of v2⟩, _, rfl, _, rfl, _, rfl, _, rfl, u, p, 1 + z, .ref c, _, [L, u], rfl, v1, by simp, hB12, by omega, by omega, by omega, by omega, v6, gp, Nat.le_trans od.2.2.1 (by decide), Nat.le_trans od.2.2.2 (by decide), fun va da H13 u13 b13 dd13 ft => nil_app ?_⟩
      have oda := fit_od ft od
      have x2 := b13 _ _ nLu v2
      refine ⟨L, xs, va, rfl, rfl, x2, by rw [v5, sizeLine_eq]; omega, ?_⟩
      have kk := ban_but (B := [L, u]) (u := L) (by simp) (But.upd (p := L) (H := H13) (o := .lst (xs ++ [va])))
      have u14 : Urn (upd H13 L (.lst (xs ++ [va]))) u := u13.but (q := L) But.upd nLu.symm
      have hB14 : Held [L, u] (upd H13 L (.lst (xs ++ [va]))) := fun x mx => by
        rcases List.mem_cons.mp mx with rfl | mx
        · exact ⟨_, upd_same⟩
        · rw [List.mem_singleton.mp mx]; exact urn_at u14
      have x3 := ((v3.same (ban_but (by simp) b13)).append (.cons dd13 .nil)).same kk
      have x6 := (v6.same (ban_but (by simp) b13)).same kk
      have x7 := same_butU (same_butU v7 nHu b13) nHL (But.upd (p := L) (H := H13) (o := .lst (xs ++ [va])))
      refine ⟨_, rfl, .inl ⟨rfl, _, SqL.of upd_same⟩, _, rfl, _, rfl, _, rfl, _, rfl, 1, rfl, L, _, -1, va, rfl, rfl, SqL.of upd_same, at_neg1 xs va, u, p, 1 + z, va, da, [L, u], rfl, u14, by simp, hB14, by omega, by omega, by omega, by omega, dd13.same kk, oda.1, Nat.le_trans oda.2.2.1 (by decide), Nat.le_trans oda.2.2.2 (by decide), fun vb db H15 u15 b15 dd15 ft2 => nil_app ?_⟩
      have odb := fit_od ft2 oda
      refine ⟨L, xs ++ [va], vb, rfl, rfl, b15 _ _ nLu upd_same, by rw [List.length_append, v5, sizeLine_eq]; show 7 + 2 * j + 1 < _; omega, ?_⟩
      refine ⟨_, _, _, rfl, u15.but (q := L) But.upd nLu.symm, upd_same, ((x3.same (ban_but (by simp) b15)).append (.cons dd15 .nil)).same (ban_but (u := L) (by simp) But.upd), fun d md => ?_, ?_, (x6.same (ban_but (by simp) b15)).same (ban_but (u := L) (by simp) But.upd), same_butU (same_butU x7 nHu b15) nHL But.upd⟩
      · rcases List.mem_append.mp md with md | md
        · rcases List.mem_append.mp md with md | md
          · exact v4 d md
          · rw [List.mem_singleton.mp md]
            exact oda.sm (by decide) (by decide) (by decide)
        · rw [List.mem_singleton.mp md]
          exact odb.sm (by decide) (by decide) (by decide)
      · rw [List.length_append, List.length_append, v5]
        show 7 + 2 * j + 1 + 1 = 7 + 2 * (j + 1)
        omega
    · rintro σ H12 ⟨y6, xs, ds, rfl, v1, v2, v3, v4, v5, v6, v7⟩
      -- each is asked
      have d3 := v3.same ban_on
      refine ⟨_, rfl, L, rfl, ⟨_, SqL.of v2⟩, fun D5 nD5 => ?_⟩
      refine lc_list (xs := xs) (fun i H' => H' D5 = some (.lst ((List.replicate i true).map V.bl)) ∧ Same H12 H') ⟨upd_same, same_new nD5⟩ (fun i H' _ h => SqL.of (h.2 _ _ v2)) ?_ ?_
      · rintro i x H13 hx ⟨e1, e2⟩
        have hi : i < xs.length := (List.getElem?_eq_some_iff.mp hx).1
        obtain ⟨d, hd, dx⟩ := d3.get hx
        refine ⟨rfl, _, rfl, _, rfl, _, rfl, p, 1 + z, x, d, rfl, dx.same e2, v4 d (List.mem_of_getElem? hd), fun H14 s14 => ⟨_, s14 _ _ e1, ?_, ?_, fun b o ho => ?_⟩⟩
        · rw [List.length_map, List.length_replicate, sizeLine_eq]
          omega
        · rw [upd_same, rep_snoc]
        · rw [upd_ne (ne_of_none ho nD5)]
          exact s14 _ _ (e2 _ _ ho)
      rintro H13 ⟨e1, e2⟩
      refine ⟨D5, _, rfl, SqL.of e1, _, rfl, ?_⟩
      rw [all_rep]
      refine iteF ?_
      -- by name
      have dP : Dd K H13 (.ref c) (.tuple (datTs b)) := (v6.same ban_on).same e2
      have lxP : lx (.tuple (datTs b)) ≤ 1000 := Nat.le_trans od.2.2.2 (by decide)
      obtain ⟨bt_, hbt⟩ := tree_of (p := p) (n := 1 + z) dP lxP
      refine ⟨_, rfl, _, rfl, _, rfl, p, 1 + z, .ref c, _, bt_, rfl, dP, lxP, hbt, fun H14 s14 => ?_⟩
      refine ⟨_, rfl, _, rfl, _, rfl, p, 1 + z, .ref c, _, bt_, rfl, dP.same s14, lxP, fun h => ⟨(hbt h).1.kt (Kt.same s14), (hbt h).2⟩, fun H15 s15 => ?_⟩
      refine ⟨rfl, _, rfl, ?_⟩
      refine ifNN rfl ?_
      exact ⟨_, _, _, _, _, _, _, rfl, v7.trans (e2.trans (s14.trans s15))⟩
  · rintro σ H3 ⟨y1, y2, y3, y4, y5, y6, y7, rfl, s3⟩
    exact q H3
end
end K05
set_option Elab.async false
set_option pp.maxSteps 500
set_option pp.deepTerms.threshold 8
set_option pp.deepTerms false
set_option linter.all false
set_option maxRecDepth 100000
namespace K05
open PySem PySem.Spec PyProof.Rows L2 Lj
section
variable {K : PySem.W.Frag} {w : World}
abbrev tup2 (a b : Value) (c : Nat) : Obj := ⟨.type "tuple", none, .seq #[a, b] c, #[]⟩
theorem shp_at {t : Addr} {i : Int} {a b : Tok} {j : Int} {c : Nat} (h : K.lookup t = some (tup2 (.int i a) (.int j b) c)) {k : Nat} (e : i = (k : Int)) : ShpAt K t (k, some j) := fun H => by
  subst e
  exact .inr ⟨_, _, _, h, rfl, rfl, by show 2 ≤ sizeLine; decide, .cons ⟨_, rfl⟩ (.cons ⟨_, rfl⟩ .nil)⟩
theorem shp_atN {t : Addr} {i : Int} {a : Tok} {c : Nat} (h : K.lookup t = some (tup2 (.int i a) .none c)) {k : Nat} (e : i = (k : Int)) : ShpAt K t (k, none) := fun H => by
  subst e
  exact .inr ⟨_, _, _, h, rfl, rfl, by show 2 ≤ sizeLine; decide, .cons ⟨_, rfl⟩ (.cons rfl .nil)⟩
theorem shs_mk {sh s1 s2 s3 s4 s5 s6 s7 : Addr} {n : Nat} {h1 h2 h3 h4 h5 h6 h7 : Int} {t1 t2 t3 t4 t5 t6 t7 a1 a2 a3 a4 a5 a6 a7 b1 b3 b4 : Tok} {c1 c2 c3 c4 c5 c6 c7 : Nat}
    (lk : K.lookup sh = some ⟨.type "dict", none, .dict #[⟨h1, .str "set" t1, .ref s1⟩, ⟨h2, .str "copy" t2, .ref s2⟩, ⟨h3, .str "add" t3, .ref s3⟩, ⟨h4, .str "scale" t4, .ref s4⟩, ⟨h5, .str "swap" t5, .ref s5⟩, ⟨h6, .str "read" t6, .ref s6⟩, ⟨h7, .str "write" t7, .ref s7⟩] n, #[]⟩)
    (kl : PySem.W.KeysLit w.params [⟨h1, .str "set" t1, .ref s1⟩, ⟨h2, .str "copy" t2, .ref s2⟩, ⟨h3, .str "add" t3, .ref s3⟩, ⟨h4, .str "scale" t4, .ref s4⟩, ⟨h5, .str "swap" t5, .ref s5⟩, ⟨h6, .str "read" t6, .ref s6⟩, ⟨h7, .str "write" t7, .ref s7⟩]) (low : (sh == sysModules) = false)
    (l1 : K.lookup s1 = some (tup2 (.int 1 a1) (.int 0 b1) c1)) (l2 : K.lookup s2 = some (tup2 (.int 2 a2) .none c2)) (l3 : K.lookup s3 = some (tup2 (.int 2 a3) (.int 1 b3) c3)) (l4 : K.lookup s4 = some (tup2 (.int 1 a4) (.int 0 b4) c4)) (l5 : K.lookup s5 = some (tup2 (.int 2 a5) .none c5)) (l6 : K.lookup s6 = some (tup2 (.int 1 a6) .none c6)) (l7 : K.lookup s7 = some (tup2 (.int 1 a7) .none c7)) : Shs K w sh := by
  refine ⟨⟨_, _, lk, kl, low⟩, fun z => ?_⟩
  by_cases z1 : z = "set"
  · subst z1
    exact ⟨_, (by unfold PySem.W.nsIn; rw [lk]; rfl), .inr ⟨(1, some 0), s1, rfl, rfl, shp_at l1 rfl, .inl rfl⟩⟩
  by_cases z2 : z = "copy"
  · subst z2
    exact ⟨_, (by unfold PySem.W.nsIn; rw [lk]; rfl), .inr ⟨(2, none), s2, rfl, rfl, shp_atN l2 rfl, .inr rfl⟩⟩
  by_cases z3 : z = "add"
  · subst z3
    exact ⟨_, (by unfold PySem.W.nsIn; rw [lk]; rfl), .inr ⟨(2, some 1), s3, rfl, rfl, shp_at l3 rfl, .inr rfl⟩⟩
  by_cases z4 : z = "scale"
  · subst z4
    exact ⟨_, (by unfold PySem.W.nsIn; rw [lk]; rfl), .inr ⟨(1, some 0), s4, rfl, rfl, shp_at l4 rfl, .inl rfl⟩⟩
  by_cases z5 : z = "swap"
  · subst z5
    exact ⟨_, (by unfold PySem.W.nsIn; rw [lk]; rfl), .inr ⟨(2, none), s5, rfl, rfl, shp_atN l5 rfl, .inr rfl⟩⟩
  by_cases z6 : z = "read"
  · subst z6
    exact ⟨_, (by unfold PySem.W.nsIn; rw [lk]; rfl), .inr ⟨(1, none), s6, rfl, rfl, shp_atN l6 rfl, .inl rfl⟩⟩
  by_cases z7 : z = "write"
  · subst z7
    exact ⟨_, (by unfold PySem.W.nsIn; rw [lk]; rfl), .inr ⟨(1, none), s7, rfl, rfl, shp_atN l7 rfl, .inl rfl⟩⟩
  refine ⟨none, ?_, .inl ⟨?_, rfl⟩⟩
  · have f : ∀ {y : Str} {t : Tok}, z ≠ y → (Value.str y t).isStr z = false := fun {y t} h => by
      show (y == z) = false
      exact beq_eq_false_iff_ne.mpr fun e => h e.symm
    unfold PySem.W.nsIn
    rw [lk]
    show (match ([⟨h1, .str "set" t1, .ref s1⟩, ⟨h2, .str "copy" t2, .ref s2⟩, ⟨h3, .str "add" t3, .ref s3⟩, ⟨h4, .str "scale" t4, .ref s4⟩, ⟨h5, .str "swap" t5, .ref s5⟩, ⟨h6, .str "read" t6, .ref s6⟩, ⟨h7, .str "write" t7, .ref s7⟩] : List DictEntry).find? (·.key.isStr z) with
      | some e => some (some e.val)
      | none => _) = _
    rw [List.find?_cons, f z1, List.find?_cons, f z2, List.find?_cons, f z3, List.find?_cons, f z4, List.find?_cons, f z5, List.find?_cons, f z6, List.find?_cons, f z7]
    rfl
  · unfold shp
    rw [if_neg z1, if_neg z2, if_neg z3, if_neg z4, if_neg z5, if_neg z6, if_neg z7]
end
theorem all_mk {l : PySem.W.OpenLaw} {w : World} {K : PySem.W.Frag} {h : Heap} {mg : Str → Option Value} {fa f0 f1 f2 f3 f4 f5 f6 f7 f8 f9 f10 f11 f12 f13 f14 f15 f16 f17 f18 f19 f20 f21 f22 f23 f24 f25 f26 : Addr} (X : K.In h) (G : h.Ns mainGlobals mg) (hfa : mg "law" = some (.ref fa))
    {od0 an0 od1 an1 od2 an2 od3 an3 od4 an4 od5 an5 od6 an6 od7 an7 od8 an8 od9 an9 od10 an10 od11 an11 od12 an12 od13 an13 od14 an14 od15 an15 od16 an16 od17 an17 od18 an18 od19 an19 od20 an20 od21 an21 od22 an22 od23 an23 od24 an24 od25 an25 od26 an26 : Option Addr} {sl0 sl1 sl2 sl3 sl4 sl5 sl6 sl7 sl8 sl9 sl10 sl11 sl12 sl13 sl14 sl15 sl16 sl17 sl18 sl19 sl20 sl21 sl22 sl23 sl24 sl25 sl26 : Array (Option Value)} {oc0 kV0 dc0 pm0 cd0 ct0 oc1 kV1 dc1 pm1 cd1 ct1 oc2 kV2 dc2 pm2 cd2 ct2 oc3 kV3 dc3 pm3 cd3 ct3 oc4 kV4 dc4 pm4 cd4 ct4 oc5 kV5 dc5 pm5 cd5 ct5 oc6 kV6 dc6 pm6 cd6 ct6 oc7 kV7 dc7 pm7 cd7 ct7 oc8 kV8 dc8 pm8 cd8 ct8 oc9 kV9 dc9 pm9 cd9 ct9 oc10 kV10 dc10 pm10 cd10 ct10 oc11 kV11 dc11 pm11 cd11 ct11 oc12 kV12 dc12 pm12 cd12 ct12 oc13 kV13 dc13 pm13 cd13 ct13 oc14 kV14 dc14 pm14 cd14 ct14 oc15 kV15 dc15 pm15 cd15 ct15 oc16 kV16 dc16 pm16 cd16 ct16 oc17 kV17 dc17 pm17 cd17 ct17 oc18 kV18 dc18 pm18 cd18 ct18 oc19 kV19 dc19 pm19 cd19 ct19 oc20 kV20 dc20 pm20 cd20 ct20 oc21 kV21 dc21 pm21 cd21 ct21 oc22 kV22 dc22 pm22 cd22 ct22 oc23 kV23 dc23 pm23 cd23 ct23 oc24 kV24 dc24 pm24 cd24 ct24 oc25 kV25 dc25 pm25 cd25 ct25 oc26 kV26 dc26 pm26 cd26 ct26 : Value}
    (a0 : PySem.W.nsIn K mainGlobals "is_between" = some (some (.ref f0))) (l0 : K.lookup f0 = some ⟨oc0, od0, .func (PySem.W.fnOf "is_between" "is_between" (defArgs sIs_between) (defBody sIs_between) (defScope sIs_between) .none kV0 dc0 pm0 an0 cd0 ct0), sl0⟩) (c0 : PySem.W.codeIn K cd0 "is_between" = true) (k0 : PySem.W.keepIn K (.ref f0) = true)
    (a1 : PySem.W.nsIn K mainGlobals "is_program" = some (some (.ref f1))) (l1 : K.lookup f1 = some ⟨oc1, od1, .func (PySem.W.fnOf "is_program" "is_program" (defArgs sIs_program) (defBody sIs_program) (defScope sIs_program) .none kV1 dc1 pm1 an1 cd1 ct1), sl1⟩) (c1 : PySem.W.codeIn K cd1 "is_program" = true) (k1 : PySem.W.keepIn K (.ref f1) = true)
    (a2 : PySem.W.nsIn K mainGlobals "is_body" = some (some (.ref f2))) (l2 : K.lookup f2 = some ⟨oc2, od2, .func (PySem.W.fnOf "is_body" "is_body" (defArgs sIs_body) (defBody sIs_body) (defScope sIs_body) .none kV2 dc2 pm2 an2 cd2 ct2), sl2⟩) (c2 : PySem.W.codeIn K cd2 "is_body" = true) (k2 : PySem.W.keepIn K (.ref f2) = true)
    (a3 : PySem.W.nsIn K mainGlobals "is_instruction" = some (some (.ref f3))) (l3 : K.lookup f3 = some ⟨oc3, od3, .func (PySem.W.fnOf "is_instruction" "is_instruction" (defArgs sIs_instruction) (defBody sIs_instruction) (defScope sIs_instruction) .none kV3 dc3 pm3 an3 cd3 ct3), sl3⟩) (c3 : PySem.W.codeIn K cd3 "is_instruction" = true) (k3 : PySem.W.keepIn K (.ref f3) = true)
    (a4 : PySem.W.nsIn K mainGlobals "is_loop" = some (some (.ref f4))) (l4 : K.lookup f4 = some ⟨oc4, od4, .func (PySem.W.fnOf "is_loop" "is_loop" (defArgs sIs_loop) (defBody sIs_loop) (defScope sIs_loop) .none kV4 dc4 pm4 an4 cd4 ct4), sl4⟩) (c4 : PySem.W.codeIn K cd4 "is_loop" = true) (k4 : PySem.W.keepIn K (.ref f4) = true)
    (a5 : PySem.W.nsIn K mainGlobals "has_shape" = some (some (.ref f5))) (l5 : K.lookup f5 = some ⟨oc5, od5, .func (PySem.W.fnOf "has_shape" "has_shape" (defArgs sHas_shape) (defBody sHas_shape) (defScope sHas_shape) .none kV5 dc5 pm5 an5 cd5 ct5), sl5⟩) (c5 : PySem.W.codeIn K cd5 "has_shape" = true) (k5 : PySem.W.keepIn K (.ref f5) = true)
    (a6 : PySem.W.nsIn K mainGlobals "are_registers" = some (some (.ref f6))) (l6 : K.lookup f6 = some ⟨oc6, od6, .func (PySem.W.fnOf "are_registers" "are_registers" (defArgs sAre_registers) (defBody sAre_registers) (defScope sAre_registers) .none kV6 dc6 pm6 an6 cd6 ct6), sl6⟩) (c6 : PySem.W.codeIn K cd6 "are_registers" = true) (k6 : PySem.W.keepIn K (.ref f6) = true)
    (a7 : PySem.W.nsIn K mainGlobals "size" = some (some (.ref f7))) (l7 : K.lookup f7 = some ⟨oc7, od7, .func (PySem.W.fnOf "size" "size" (defArgs sSize) (defBody sSize) (defScope sSize) .none kV7 dc7 pm7 an7 cd7 ct7), sl7⟩) (c7 : PySem.W.codeIn K cd7 "size" = true) (k7 : PySem.W.keepIn K (.ref f7) = true)
    (a8 : PySem.W.nsIn K mainGlobals "read_count" = some (some (.ref f8))) (l8 : K.lookup f8 = some ⟨oc8, od8, .func (PySem.W.fnOf "read_count" "read_count" (defArgs sRead_count) (defBody sRead_count) (defScope sRead_count) .none kV8 dc8 pm8 an8 cd8 ct8), sl8⟩) (c8 : PySem.W.codeIn K cd8 "read_count" = true) (k8 : PySem.W.keepIn K (.ref f8) = true)
    (a9 : PySem.W.nsIn K mainGlobals "write_count" = some (some (.ref f9))) (l9 : K.lookup f9 = some ⟨oc9, od9, .func (PySem.W.fnOf "write_count" "write_count" (defArgs sWrite_count) (defBody sWrite_count) (defScope sWrite_count) .none kV9 dc9 pm9 an9 cd9 ct9), sl9⟩) (c9 : PySem.W.codeIn K cd9 "write_count" = true) (k9 : PySem.W.keepIn K (.ref f9) = true)
    (a10 : PySem.W.nsIn K mainGlobals "word_count" = some (some (.ref f10))) (l10 : K.lookup f10 = some ⟨oc10, od10, .func (PySem.W.fnOf "word_count" "word_count" (defArgs sWord_count) (defBody sWord_count) (defScope sWord_count) .none kV10 dc10 pm10 an10 cd10 ct10), sl10⟩) (c10 : PySem.W.codeIn K cd10 "word_count" = true) (k10 : PySem.W.keepIn K (.ref f10) = true)
    (a11 : PySem.W.nsIn K mainGlobals "_law_urn" = some (some (.ref f11))) (l11 : K.lookup f11 = some ⟨oc11, od11, .func (PySem.W.fnOf "_law_urn" "_law_urn" (defArgs sUrn) (defBody sUrn) (defScope sUrn) .none kV11 dc11 pm11 an11 cd11 ct11), sl11⟩) (c11 : PySem.W.codeIn K cd11 "_law_urn" = true) (k11 : PySem.W.keepIn K (.ref f11) = true)
    (a12 : PySem.W.nsIn K mainGlobals "_law_take" = some (some (.ref f12))) (l12 : K.lookup f12 = some ⟨oc12, od12, .func (PySem.W.fnOf "_law_take" "_law_take" (defArgs sTake) (defBody sTake) (defScope sTake) .none kV12 dc12 pm12 an12 cd12 ct12), sl12⟩) (c12 : PySem.W.codeIn K cd12 "_law_take" = true) (k12 : PySem.W.keepIn K (.ref f12) = true)
    (a13 : PySem.W.nsIn K mainGlobals "_law_of" = some (some (.ref f13))) (l13 : K.lookup f13 = some ⟨oc13, od13, .func (PySem.W.fnOf "_law_of" "_law_of" (defArgs sOf) (defBody sOf) (defScope sOf) .none kV13 dc13 pm13 an13 cd13 ct13), sl13⟩) (c13 : PySem.W.codeIn K cd13 "_law_of" = true) (k13 : PySem.W.keepIn K (.ref f13) = true)
    (a14 : PySem.W.nsIn K mainGlobals "_law_prime" = some (some (.ref f14))) (l14 : K.lookup f14 = some ⟨oc14, od14, .func (PySem.W.fnOf "_law_prime" "_law_prime" (defArgs sPrime) (defBody sPrime) (defScope sPrime) .none kV14 dc14 pm14 an14 cd14 ct14), sl14⟩) (c14 : PySem.W.codeIn K cd14 "_law_prime" = true) (k14 : PySem.W.keepIn K (.ref f14) = true)
    (a15 : PySem.W.nsIn K mainGlobals "_law_item" = some (some (.ref f15))) (l15 : K.lookup f15 = some ⟨oc15, od15, .func (PySem.W.fnOf "_law_item" "_law_item" (defArgs sItem) (defBody sItem) (defScope sItem) .none kV15 dc15 pm15 an15 cd15 ct15), sl15⟩) (c15 : PySem.W.codeIn K cd15 "_law_item" = true) (k15 : PySem.W.keepIn K (.ref f15) = true)
    (a16 : PySem.W.nsIn K mainGlobals "_law_body" = some (some (.ref f16))) (l16 : K.lookup f16 = some ⟨oc16, od16, .func (PySem.W.fnOf "_law_body" "_law_body" (defArgs sBody) (defBody sBody) (defScope sBody) .none kV16 dc16 pm16 an16 cd16 ct16), sl16⟩) (c16 : PySem.W.codeIn K cd16 "_law_body" = true) (k16 : PySem.W.keepIn K (.ref f16) = true)
    (a17 : PySem.W.nsIn K mainGlobals "_law_words" = some (some (.ref f17))) (l17 : K.lookup f17 = some ⟨oc17, od17, .func (PySem.W.fnOf "_law_words" "_law_words" (defArgs sWords) (defBody sWords) (defScope sWords) .none kV17 dc17 pm17 an17 cd17 ct17), sl17⟩) (c17 : PySem.W.codeIn K cd17 "_law_words" = true) (k17 : PySem.W.keepIn K (.ref f17) = true)
    (a18 : PySem.W.nsIn K mainGlobals "_law_int" = some (some (.ref f18))) (l18 : K.lookup f18 = some ⟨oc18, od18, .func (PySem.W.fnOf "_law_int" "_law_int" (defArgs sLint) (defBody sLint) (defScope sLint) .none kV18 dc18 pm18 an18 cd18 ct18), sl18⟩) (c18 : PySem.W.codeIn K cd18 "_law_int" = true) (k18 : PySem.W.keepIn K (.ref f18) = true)
    (a19 : PySem.W.nsIn K mainGlobals "_law_is_item" = some (some (.ref f19))) (l19 : K.lookup f19 = some ⟨oc19, od19, .func (PySem.W.fnOf "_law_is_item" "_law_is_item" (defArgs sLisitem) (defBody sLisitem) (defScope sLisitem) .none kV19 dc19 pm19 an19 cd19 ct19), sl19⟩) (c19 : PySem.W.codeIn K cd19 "_law_is_item" = true) (k19 : PySem.W.keepIn K (.ref f19) = true)
    (a20 : PySem.W.nsIn K mainGlobals "_law_many" = some (some (.ref f20))) (l20 : K.lookup f20 = some ⟨oc20, od20, .func (PySem.W.fnOf "_law_many" "_law_many" (defArgs sMany) (defBody sMany) (defScope sMany) .none kV20 dc20 pm20 an20 cd20 ct20), sl20⟩) (c20 : PySem.W.codeIn K cd20 "_law_many" = true) (k20 : PySem.W.keepIn K (.ref f20) = true)
    (a21 : PySem.W.nsIn K mainGlobals "_law_due" = some (some (.ref f21))) (l21 : K.lookup f21 = some ⟨oc21, od21, .func (PySem.W.fnOf "_law_due" "_law_due" (defArgs sDue) (defBody sDue) (defScope sDue) .none kV21 dc21 pm21 an21 cd21 ct21), sl21⟩) (c21 : PySem.W.codeIn K cd21 "_law_due" = true) (k21 : PySem.W.keepIn K (.ref f21) = true)
    (a22 : PySem.W.nsIn K mainGlobals "_law_odd" = some (some (.ref f22))) (l22 : K.lookup f22 = some ⟨oc22, od22, .func (PySem.W.fnOf "_law_odd" "_law_odd" (defArgs sOdd) (defBody sOdd) (defScope sOdd) .none kV22 dc22 pm22 an22 cd22 ct22), sl22⟩) (c22 : PySem.W.codeIn K cd22 "_law_odd" = true) (k22 : PySem.W.keepIn K (.ref f22) = true)
    (a23 : PySem.W.nsIn K mainGlobals "_law_bent" = some (some (.ref f23))) (l23 : K.lookup f23 = some ⟨oc23, od23, .func (PySem.W.fnOf "_law_bent" "_law_bent" (defArgs sBent) (defBody sBent) (defScope sBent) .none kV23 dc23 pm23 an23 cd23 ct23), sl23⟩) (c23 : PySem.W.codeIn K cd23 "_law_bent" = true) (k23 : PySem.W.keepIn K (.ref f23) = true)
    (a24 : PySem.W.nsIn K mainGlobals "_law_edges" = some (some (.ref f24))) (l24 : K.lookup f24 = some ⟨oc24, od24, .func (PySem.W.fnOf "_law_edges" "_law_edges" (defArgs sEdges) (defBody sEdges) (defScope sEdges) .none kV24 dc24 pm24 an24 cd24 ct24), sl24⟩) (c24 : PySem.W.codeIn K cd24 "_law_edges" = true) (k24 : PySem.W.keepIn K (.ref f24) = true)
    (a25 : PySem.W.nsIn K mainGlobals "_law_shown" = some (some (.ref f25))) (l25 : K.lookup f25 = some ⟨oc25, od25, .func (PySem.W.fnOf "_law_shown" "_law_shown" (defArgs sShown) (defBody sShown) (defScope sShown) .none kV25 dc25 pm25 an25 cd25 ct25), sl25⟩) (c25 : PySem.W.codeIn K cd25 "_law_shown" = true) (k25 : PySem.W.keepIn K (.ref f25) = true)
    (a26 : PySem.W.nsIn K mainGlobals "law" = some (some (.ref f26))) (l26 : K.lookup f26 = some ⟨oc26, od26, .func (PySem.W.fnOf "law" "law" (defArgs sLaw) (defBody sLaw) (defScope sLaw) .none kV26 dc26 pm26 an26 cd26 ct26), sl26⟩) (c26 : PySem.W.codeIn K cd26 "law" = true) (k26 : PySem.W.keepIn K (.ref f26) = true)
    (z0 : PySem.W.nsIn K mainGlobals "len" = some none)
    (z1 : PySem.W.nsIn K mainGlobals "abs" = some none)
    (z2 : PySem.W.nsIn K mainGlobals "int" = some none)
    (z3 : PySem.W.nsIn K mainGlobals "range" = some none)
    (z4 : PySem.W.nsIn K mainGlobals "max" = some none)
    (z5 : PySem.W.nsIn K mainGlobals "min" = some none)
    (z6 : PySem.W.nsIn K mainGlobals "all" = some none)
    (z7 : PySem.W.nsIn K mainGlobals "sum" = some none)
    (z8 : PySem.W.nsIn K mainGlobals "list" = some none)
    (z9 : PySem.W.nsIn K mainGlobals "tuple" = some none)
    (z10 : PySem.W.nsIn K mainGlobals "isinstance" = some none)
    (z11 : PySem.W.nsIn K mainGlobals "bool" = some none)
    (z12 : PySem.W.nsIn K mainGlobals "repr" = some none)
    (z13 : PySem.W.nsIn K mainGlobals "enumerate" = some none)
    (z14 : PySem.W.nsIn K mainGlobals "zip" = some none)
    (z15 : PySem.W.nsIn K mainGlobals "divmod" = some none)
    (y0 : PySem.W.nsIn K mainGlobals "str" = some none)
    {tk0 : Tok} (v0 : PySem.W.nsIn K mainGlobals "MAX_DEPTH" = some (some (.int 4 tk0)))
    {tk1 : Tok} (v1 : PySem.W.nsIn K mainGlobals "MAX_SIZE" = some (some (.int 200 tk1)))
    {tk2 : Tok} (v2 : PySem.W.nsIn K mainGlobals "MAX_READS" = some (some (.int 2000 tk2)))
    {tk3 : Tok} (v3 : PySem.W.nsIn K mainGlobals "MAX_WRITES" = some (some (.int 2000 tk3)))
    {tk4 : Tok} (v4 : PySem.W.nsIn K mainGlobals "MAX_ROUNDS" = some (some (.int 1000000000000000000 tk4)))
    {sh sr0 sr1 sr2 sr3 sr4 sr5 sr6 : Addr} {sn sc0 sc1 sc2 sc3 sc4 sc5 sc6 : Nat} {sh0 sh1 sh2 sh3 sh4 sh5 sh6 : Int} {st0 sa0 st1 sa1 st2 sa2 st3 sa3 st4 sa4 st5 sa5 st6 sa6 sb0 sb2 sb3 : Tok}
    (w0 : PySem.W.nsIn K mainGlobals "SHAPES" = some (some (.ref sh))) (w1 : K.lookup sh = some ⟨.type "dict", none, .dict #[⟨sh0, .str "set" st0, .ref sr0⟩, ⟨sh1, .str "copy" st1, .ref sr1⟩, ⟨sh2, .str "add" st2, .ref sr2⟩, ⟨sh3, .str "scale" st3, .ref sr3⟩, ⟨sh4, .str "swap" st4, .ref sr4⟩, ⟨sh5, .str "read" st5, .ref sr5⟩, ⟨sh6, .str "write" st6, .ref sr6⟩] sn, #[]⟩) (w2 : PySem.W.KeysLit w.params [⟨sh0, .str "set" st0, .ref sr0⟩, ⟨sh1, .str "copy" st1, .ref sr1⟩, ⟨sh2, .str "add" st2, .ref sr2⟩, ⟨sh3, .str "scale" st3, .ref sr3⟩, ⟨sh4, .str "swap" st4, .ref sr4⟩, ⟨sh5, .str "read" st5, .ref sr5⟩, ⟨sh6, .str "write" st6, .ref sr6⟩]) (w3 : (sh == sysModules) = false) (w4 : K.lookup sr0 = some (tup2 (.int 1 sa0) (.int 0 sb0) sc0)) (w5 : K.lookup sr1 = some (tup2 (.int 2 sa1) .none sc1)) (w6 : K.lookup sr2 = some (tup2 (.int 2 sa2) (.int 1 sb2) sc2)) (w7 : K.lookup sr3 = some (tup2 (.int 1 sa3) (.int 0 sb3) sc3)) (w8 : K.lookup sr4 = some (tup2 (.int 2 sa4) .none sc4)) (w9 : K.lookup sr5 = some (tup2 (.int 1 sa5) .none sc5)) (w10 : K.lookup sr6 = some (tup2 (.int 1 sa6) .none sc6))
    : ∃ fd : FuncData, (∀ (s : Shared) (v : Value), BindsTo s fd ⟨[v], []⟩ [("_law_script", v)]) ∧ ∀ base : Heap, K.In base → base.Ns mainGlobals mg → FnG l.prog w K mg base 20 fa fd ["_law_script"] (spLaw K) := by
  have FIs_between := fun_mk (st := sIs_between) l0 c0 k0
  have AIs_between : At K mg "is_between" sIs_between ["value", "low", "high"] := ⟨_, _, FIs_between, FIs_between.binds (ps := ["value", "low", "high"]) fun _ _ _ _ _ _ us hl => match us, hl with | [_, _, _], _ => rfl, PySem.W.mg_of X G a0⟩
  have FIs_program := fun_mk (st := sIs_program) l1 c1 k1
  have AIs_program : At K mg "is_program" sIs_program ["p", "n", "value"] := ⟨_, _, FIs_program, FIs_program.binds (ps := ["p", "n", "value"]) fun _ _ _ _ _ _ us hl => match us, hl with | [_, _, _], _ => rfl, PySem.W.mg_of X G a1⟩
  have FIs_body := fun_mk (st := sIs_body) l2 c2 k2
  have AIs_body : At K mg "is_body" sIs_body ["p", "n", "value", "levels"] := ⟨_, _, FIs_body, FIs_body.binds (ps := ["p", "n", "value", "levels"]) fun _ _ _ _ _ _ us hl => match us, hl with | [_, _, _, _], _ => rfl, PySem.W.mg_of X G a2⟩
  have FIs_instruction := fun_mk (st := sIs_instruction) l3 c3 k3
  have AIs_instruction : At K mg "is_instruction" sIs_instruction ["p", "n", "value", "levels"] := ⟨_, _, FIs_instruction, FIs_instruction.binds (ps := ["p", "n", "value", "levels"]) fun _ _ _ _ _ _ us hl => match us, hl with | [_, _, _, _], _ => rfl, PySem.W.mg_of X G a3⟩
  have FIs_loop := fun_mk (st := sIs_loop) l4 c4 k4
  have AIs_loop : At K mg "is_loop" sIs_loop ["p", "n", "value", "levels"] := ⟨_, _, FIs_loop, FIs_loop.binds (ps := ["p", "n", "value", "levels"]) fun _ _ _ _ _ _ us hl => match us, hl with | [_, _, _, _], _ => rfl, PySem.W.mg_of X G a4⟩
  have FHas_shape := fun_mk (st := sHas_shape) l5 c5 k5
  have AHas_shape : At K mg "has_shape" sHas_shape ["p", "n", "shape", "parts"] := ⟨_, _, FHas_shape, FHas_shape.binds (ps := ["p", "n", "shape", "parts"]) fun _ _ _ _ _ _ us hl => match us, hl with | [_, _, _, _], _ => rfl, PySem.W.mg_of X G a5⟩
  have FAre_registers := fun_mk (st := sAre_registers) l6 c6 k6
  have AAre_registers : At K mg "are_registers" sAre_registers ["n", "parts"] := ⟨_, _, FAre_registers, FAre_registers.binds (ps := ["n", "parts"]) fun _ _ _ _ _ _ us hl => match us, hl with | [_, _], _ => rfl, PySem.W.mg_of X G a6⟩
  have FSize := fun_mk (st := sSize) l7 c7 k7
  have ASize : At K mg "size" sSize ["program"] := ⟨_, _, FSize, FSize.binds (ps := ["program"]) fun _ _ _ _ _ _ us hl => match us, hl with | [_], _ => rfl, PySem.W.mg_of X G a7⟩
  have FRead_count := fun_mk (st := sRead_count) l8 c8 k8
  have ARead_count : At K mg "read_count" sRead_count ["program"] := ⟨_, _, FRead_count, FRead_count.binds (ps := ["program"]) fun _ _ _ _ _ _ us hl => match us, hl with | [_], _ => rfl, PySem.W.mg_of X G a8⟩
  have FWrite_count := fun_mk (st := sWrite_count) l9 c9 k9
  have AWrite_count : At K mg "write_count" sWrite_count ["program"] := ⟨_, _, FWrite_count, FWrite_count.binds (ps := ["program"]) fun _ _ _ _ _ _ us hl => match us, hl with | [_], _ => rfl, PySem.W.mg_of X G a9⟩
  have FWord_count := fun_mk (st := sWord_count) l10 c10 k10
  have AWord_count : At K mg "word_count" sWord_count ["program", "word"] := ⟨_, _, FWord_count, FWord_count.binds (ps := ["program", "word"]) fun _ _ _ _ _ _ us hl => match us, hl with | [_, _], _ => rfl, PySem.W.mg_of X G a10⟩
  have FUrn := fun_mk (st := sUrn) l11 c11 k11
  have AUrn : At K mg "_law_urn" sUrn ["_law_script", "_law_k"] := ⟨_, _, FUrn, FUrn.binds (ps := ["_law_script", "_law_k"]) fun _ _ _ _ _ _ us hl => match us, hl with | [_, _], _ => rfl, PySem.W.mg_of X G a11⟩
  have FTake := fun_mk (st := sTake) l12 c12 k12
  have ATake : At K mg "_law_take" sTake ["_law_urn_here", "_law_below"] := ⟨_, _, FTake, FTake.binds (ps := ["_law_urn_here", "_law_below"]) fun _ _ _ _ _ _ us hl => match us, hl with | [_, _], _ => rfl, PySem.W.mg_of X G a12⟩
  have FOf := fun_mk (st := sOf) l13 c13 k13
  have AOf : At K mg "_law_of" sOf ["_law_urn_here", "_law_items"] := ⟨_, _, FOf, FOf.binds (ps := ["_law_urn_here", "_law_items"]) fun _ _ _ _ _ _ us hl => match us, hl with | [_, _], _ => rfl, PySem.W.mg_of X G a13⟩
  have FPrime := fun_mk (st := sPrime) l14 c14 k14
  have APrime : At K mg "_law_prime" sPrime ["_law_urn_here"] := ⟨_, _, FPrime, FPrime.binds (ps := ["_law_urn_here"]) fun _ _ _ _ _ _ us hl => match us, hl with | [_], _ => rfl, PySem.W.mg_of X G a14⟩
  have FItem := fun_mk (st := sItem) l15 c15 k15
  have AItem : At K mg "_law_item" sItem ["_law_urn_here", "_law_q", "_law_wide", "_law_words_here"] := ⟨_, _, FItem, FItem.binds (ps := ["_law_urn_here", "_law_q", "_law_wide", "_law_words_here"]) fun _ _ _ _ _ _ us hl => match us, hl with | [_, _, _, _], _ => rfl, PySem.W.mg_of X G a15⟩
  have FBody := fun_mk (st := sBody) l16 c16 k16
  have ABody : At K mg "_law_body" sBody ["_law_urn_here", "_law_q", "_law_wide", "_law_words_here", "_law_length", "_law_deep", "_law_rounds"] := ⟨_, _, FBody, FBody.binds (ps := ["_law_urn_here", "_law_q", "_law_wide", "_law_words_here", "_law_length", "_law_deep", "_law_rounds"]) fun _ _ _ _ _ _ us hl => match us, hl with | [_, _, _, _, _, _, _], _ => rfl, PySem.W.mg_of X G a16⟩
  have FWords := fun_mk (st := sWords) l17 c17 k17
  have AWords : At K mg "_law_words" sWords [] := ⟨_, _, FWords, FWords.binds (ps := []) fun _ _ _ _ _ _ us hl => match us, hl with | [], _ => rfl, PySem.W.mg_of X G a17⟩
  have FLint := fun_mk (st := sLint) l18 c18 k18
  have ALint : At K mg "_law_int" sLint ["_law_thing", "_law_low", "_law_high"] := ⟨_, _, FLint, FLint.binds (ps := ["_law_thing", "_law_low", "_law_high"]) fun _ _ _ _ _ _ us hl => match us, hl with | [_, _, _], _ => rfl, PySem.W.mg_of X G a18⟩
  have FLisitem := fun_mk (st := sLisitem) l19 c19 k19
  have ALisitem : At K mg "_law_is_item" sLisitem ["_law_q", "_law_wide", "_law_thing", "_law_deep"] := ⟨_, _, FLisitem, FLisitem.binds (ps := ["_law_q", "_law_wide", "_law_thing", "_law_deep"]) fun _ _ _ _ _ _ us hl => match us, hl with | [_, _, _, _], _ => rfl, PySem.W.mg_of X G a19⟩
  have FMany := fun_mk (st := sMany) l20 c20 k20
  have AMany : At K mg "_law_many" sMany ["_law_program", "_law_word"] := ⟨_, _, FMany, FMany.binds (ps := ["_law_program", "_law_word"]) fun _ _ _ _ _ _ us hl => match us, hl with | [_, _], _ => rfl, PySem.W.mg_of X G a20⟩
  have FDue := fun_mk (st := sDue) l21 c21 k21
  have ADue : At K mg "_law_due" sDue ["_law_q", "_law_wide", "_law_thing"] := ⟨_, _, FDue, FDue.binds (ps := ["_law_q", "_law_wide", "_law_thing"]) fun _ _ _ _ _ _ us hl => match us, hl with | [_, _, _], _ => rfl, PySem.W.mg_of X G a21⟩
  have FOdd := fun_mk (st := sOdd) l22 c22 k22
  have AOdd : At K mg "_law_odd" sOdd ["_law_urn_here", "_law_q", "_law_wide"] := ⟨_, _, FOdd, FOdd.binds (ps := ["_law_urn_here", "_law_q", "_law_wide"]) fun _ _ _ _ _ _ us hl => match us, hl with | [_, _, _], _ => rfl, PySem.W.mg_of X G a22⟩
  have FBent := fun_mk (st := sBent) l23 c23 k23
  have ABent : At K mg "_law_bent" sBent ["_law_urn_here", "_law_q", "_law_wide", "_law_thing"] := ⟨_, _, FBent, FBent.binds (ps := ["_law_urn_here", "_law_q", "_law_wide", "_law_thing"]) fun _ _ _ _ _ _ us hl => match us, hl with | [_, _, _, _], _ => rfl, PySem.W.mg_of X G a23⟩
  have FEdges := fun_mk (st := sEdges) l24 c24 k24
  have AEdges : At K mg "_law_edges" sEdges [] := ⟨_, _, FEdges, FEdges.binds (ps := []) fun _ _ _ _ _ _ us hl => match us, hl with | [], _ => rfl, PySem.W.mg_of X G a24⟩
  have FShown := fun_mk (st := sShown) l25 c25 k25
  have AShown : At K mg "_law_shown" sShown ["_law_q", "_law_wide", "_law_thing"] := ⟨_, _, FShown, FShown.binds (ps := ["_law_q", "_law_wide", "_law_thing"]) fun _ _ _ _ _ _ us hl => match us, hl with | [_, _, _], _ => rfl, PySem.W.mg_of X G a25⟩
  have FLaw := fun_mk (st := sLaw) l26 c26 k26
  have ALaw : At K mg "law" sLaw ["_law_script"] := ⟨_, _, FLaw, FLaw.binds (ps := ["_law_script"]) fun _ _ _ _ _ _ us hl => match us, hl with | [_], _ => rfl, PySem.W.mg_of X G a26⟩
  have g_SHAPES := PySem.W.mg_of X G w0
  have S : Shs K w sh := shs_mk w1 w2 w3 w4 w5 w6 w7 w8 w9 w10
  have M : Bl mg := ⟨PySem.W.mg_none_of X G z0, PySem.W.mg_none_of X G z1, PySem.W.mg_none_of X G z2, PySem.W.mg_none_of X G z3, PySem.W.mg_none_of X G z4, PySem.W.mg_none_of X G z5, PySem.W.mg_none_of X G z6, PySem.W.mg_none_of X G z7, PySem.W.mg_none_of X G z8, PySem.W.mg_none_of X G z9, PySem.W.mg_none_of X G z10, PySem.W.mg_none_of X G z11, PySem.W.mg_none_of X G z12, PySem.W.mg_none_of X G z13, PySem.W.mg_none_of X G z14, PySem.W.mg_none_of X G z15⟩
  have m_str := PySem.W.mg_none_of X G y0
  have g_MAX_DEPTH := PySem.W.mg_of X G v0
  have g_MAX_SIZE := PySem.W.mg_of X G v1
  have g_MAX_READS := PySem.W.mg_of X G v2
  have g_MAX_WRITES := PySem.W.mg_of X G v3
  have g_MAX_ROUNDS := PySem.W.mg_of X G v4
  refine ⟨PySem.W.fnOf "law" "law" (defArgs sLaw) (defBody sLaw) (defScope sLaw) .none kV26 dc26 pm26 an26 cd26 ct26, fun s v => .of_eq rfl, fun base _ _ => ?_⟩
  have gR : mg "MAX_ROUNDS" = some (.int (10 ^ 18) tk4) := by
    rw [show (10 : Int) ^ 18 = 1000000000000000000 from rfl]
    exact g_MAX_ROUNDS
  have hT : Has l.prog w K mg base 1 "_law_take" ["_law_urn_here", "_law_below"] spTake := has_take ATake
  have hO : Has l.prog w K mg base 2 "_law_of" ["_law_urn_here", "_law_items"] (spOf K) := has_of M AOf ATake
  have hB : Has l.prog w K mg base 1 "is_between" ["value", "low", "high"] (spBtD K) := ok_btD (k := 0) M AIs_between
  have hRg := ok_regs M AAre_registers hB
  have hSp := ok_shape M AHas_shape (hB.up (by decide)) hRg
  have hIB := ok_isbody M m_str AIs_body AIs_instruction AIs_loop gR g_SHAPES S hB hSp 4
  have hWd : Has l.prog w K mg base 5 "word_count" ["program", "word"] (spWI K (okB 5)) := ok_word M AWord_count 5
  have hIP := ok_isprog (k := 17) AIs_program g_MAX_DEPTH g_MAX_SIZE g_MAX_READS g_MAX_WRITES hIB ((ok_size M ASize 5).up (by decide)) ((ok_read ARead_count hWd).up (by decide)) ((ok_write AWrite_count hWd).up (by decide))
  have hLI := ok_lisitem M m_str ALisitem (ok_lint (P := l.prog) (w := w) (base := base) (k := 0) M ALint) 4
  have hDu := ok_due M ADue hLI ((ok_many M AMany 5).up (by decide))
  have hOd := ok_odd M AOdd hO
  have hBe := ok_bent M ABent (hT.up (by decide)) hOd 12
  have hSh := ok_shown M AShown hIP (hDu.up (by decide))
  have hIt := ok_item M AItem hO (hT.up (by decide))
  have hBo := ok_lbody M ABody (hO.up (by decide)) (hT.up (by decide)) hIt 5
  have hLaw := ok_law (k := 19) M ALaw AIs_program ((has_urn M AUrn).up (by decide)) (hT.up (by decide)) ((ok_prime APrime hO).up (by decide)) ((ok_words AWords).up (by decide)) (hBo.up (by decide)) (hOd.up (by decide)) (hBe.up (by decide)) ((ok_edges M AEdges).up (by decide)) hSh (hIP.up (by decide)) (hDu.up (by decide))

  obtain ⟨f, fd, c⟩ := hLaw
  cases hfa.symm.trans c.g
  cases hfa.symm.trans (PySem.W.mg_of X G a26)
  obtain ⟨_, _, _, e⟩ := c.lk
  cases e.symm.trans l26
  exact c.ok
end K05
open PySem PySem.W PyProof.Rows
set_option maxRecDepth 100000 in
set_option maxHeartbeats 0 in
theorem PySem.Challenge.cw_leastjournal_k05_programs_of_any_value_holds : PySem.Challenge.rw_leastjournal_k05_programs_of_any_value.Holds := by
  w_on; o_law; k_head; (case hw => w_witness2)
  k_fill
  refine Lj.walk_G (l := PySem.Challenge.rw_leastjournal_k05_programs_of_any_value) (n := 63) (k := 20) (x := "_law_script") (sp := K05.spLaw) rfl (by decide) rfl ⟨rfl, by decide, by decide⟩ (fun w h Y => PySem.W.kIn_of Y) ?F (fun _ _ a ns hl _ hS => ⟨a, ns, rfl, hS, hl, fun _ => rfl⟩)
  case F =>
    intro w mg fa h KX G hmg
    refine' K05.all_mk KX G hmg ?a0 ?l0 ?c0 ?k0 ?a1 ?l1 ?c1 ?k1 ?a2 ?l2 ?c2 ?k2 ?a3 ?l3 ?c3 ?k3 ?a4 ?l4 ?c4 ?k4 ?a5 ?l5 ?c5 ?k5 ?a6 ?l6 ?c6 ?k6 ?a7 ?l7 ?c7 ?k7 ?a8 ?l8 ?c8 ?k8 ?a9 ?l9 ?c9 ?k9 ?a10 ?l10 ?c10 ?k10 ?a11 ?l11 ?c11 ?k11 ?a12 ?l12 ?c12 ?k12 ?a13 ?l13 ?c13 ?k13 ?a14 ?l14 ?c14 ?k14 ?a15 ?l15 ?c15 ?k15 ?a16 ?l16 ?c16 ?k16 ?a17 ?l17 ?c17 ?k17 ?a18 ?l18 ?c18 ?k18 ?a19 ?l19 ?c19 ?k19 ?a20 ?l20 ?c20 ?k20 ?a21 ?l21 ?c21 ?k21 ?a22 ?l22 ?c22 ?k22 ?a23 ?l23 ?c23 ?k23 ?a24 ?l24 ?c24 ?k24 ?a25 ?l25 ?c25 ?k25 ?a26 ?l26 ?c26 ?k26 ?z0 ?z1 ?z2 ?z3 ?z4 ?z5 ?z6 ?z7 ?z8 ?z9 ?z10 ?z11 ?z12 ?z13 ?z14 ?z15 ?y0 ?v0 ?v1 ?v2 ?v3 ?v4 ?w0 ?w1 ?w2 ?w3 ?w4 ?w5 ?w6 ?w7 ?w8 ?w9 ?w10
    (case a0 => k_is); (case l0 => k_is); (case c0 => k_is); (case k0 => k_is); (case a1 => k_is); (case l1 => k_is); (case c1 => k_is); (case k1 => k_is); (case a2 => k_is); (case l2 => k_is); (case c2 => k_is); (case k2 => k_is); (case a3 => k_is); (case l3 => k_is); (case c3 => k_is); (case k3 => k_is); (case a4 => k_is); (case l4 => k_is); (case c4 => k_is); (case k4 => k_is); (case a5 => k_is); (case l5 => k_is); (case c5 => k_is); (case k5 => k_is); (case a6 => k_is); (case l6 => k_is); (case c6 => k_is); (case k6 => k_is); (case a7 => k_is); (case l7 => k_is); (case c7 => k_is); (case k7 => k_is); (case a8 => k_is); (case l8 => k_is); (case c8 => k_is); (case k8 => k_is); (case a9 => k_is); (case l9 => k_is); (case c9 => k_is); (case k9 => k_is); (case a10 => k_is); (case l10 => k_is); (case c10 => k_is); (case k10 => k_is); (case a11 => k_is); (case l11 => k_is); (case c11 => k_is); (case k11 => k_is); (case a12 => k_is); (case l12 => k_is); (case c12 => k_is); (case k12 => k_is); (case a13 => k_is); (case l13 => k_is); (case c13 => k_is); (case k13 => k_is); (case a14 => k_is); (case l14 => k_is); (case c14 => k_is); (case k14 => k_is); (case a15 => k_is); (case l15 => k_is); (case c15 => k_is); (case k15 => k_is); (case a16 => k_is); (case l16 => k_is); (case c16 => k_is); (case k16 => k_is); (case a17 => k_is); (case l17 => k_is); (case c17 => k_is); (case k17 => k_is); (case a18 => k_is); (case l18 => k_is); (case c18 => k_is); (case k18 => k_is); (case a19 => k_is); (case l19 => k_is); (case c19 => k_is); (case k19 => k_is); (case a20 => k_is); (case l20 => k_is); (case c20 => k_is); (case k20 => k_is); (case a21 => k_is); (case l21 => k_is); (case c21 => k_is); (case k21 => k_is); (case a22 => k_is); (case l22 => k_is); (case c22 => k_is); (case k22 => k_is); (case a23 => k_is); (case l23 => k_is); (case c23 => k_is); (case k23 => k_is); (case a24 => k_is); (case l24 => k_is); (case c24 => k_is); (case k24 => k_is); (case a25 => k_is); (case l25 => k_is); (case c25 => k_is); (case k25 => k_is); (case a26 => k_is); (case l26 => k_is); (case c26 => k_is); (case k26 => k_is); (case z0 => k_is); (case z1 => k_is); (case z2 => k_is); (case z3 => k_is); (case z4 => k_is); (case z5 => k_is); (case z6 => k_is); (case z7 => k_is); (case z8 => k_is); (case z9 => k_is); (case z10 => k_is); (case z11 => k_is); (case z12 => k_is); (case z13 => k_is); (case z14 => k_is); (case z15 => k_is); (case y0 => k_is); (case v0 => k_is); (case v1 => k_is); (case v2 => k_is); (case v3 => k_is); (case v4 => k_is); (case w0 => k_is); (case w1 => k_is); (case w2 => first | exact ⟨⟨_, _, rfl, rfl⟩, ⟨_, _, rfl, rfl⟩, ⟨_, _, rfl, rfl⟩, ⟨_, _, rfl, rfl⟩, ⟨_, _, rfl, rfl⟩, ⟨_, _, rfl, rfl⟩, ⟨_, _, rfl, rfl⟩, trivial⟩); (case w3 => rfl); (case w4 => k_is); (case w5 => k_is); (case w6 => k_is); (case w7 => k_is); (case w8 => k_is); (case w9 => k_is); (case w10 => k_is)
